import PyProof.Rows.All
import Wide.All
import OpenK.AllK
import Wide.FinOn
import Lean
import PyProof.EqAt
import PyProof.EqKinds
import PyProof.TupleCall
import PySem.Challenge.RW_trueword_k56_best_is_payable
abbrev Fg := PySem.W.Frag
abbrev Za := @List.length_map
abbrev Zb := @List.getElem?_eq_getElem
abbrev Zc := @List.getElem?_eq_some_iff
abbrev Zd := @Nat.le_trans
abbrev Ze := @List.getElem?_map
abbrev Zf := @List.getElem?_append_right
abbrev Zg := @List.getElem?_append_left
abbrev Zh := @Nat.lt_of_lt_of_le
abbrev Zi := @List.mem_of_getElem?
abbrev Zj := @List.length_take
abbrev Zk := @List.getD_eq_getElem?_getD
abbrev Zl := @List.getElem_mem
abbrev Zm := @Nat.le_refl
abbrev Zn := @List.map_append
abbrev Zo := @List.length_append
abbrev Zp := @List.mem_map
abbrev Zq := @List.take_add_one
abbrev Zr := @List.size_toArray
abbrev Zs := @Nat.ne_of_lt
abbrev Zt := @List.take_length
abbrev Zu := @List.mem_append_right
abbrev Zv := @List.mem_cons_of_mem
abbrev Zw := @Int.toNat_natCast
abbrev Zx := @List.not_mem_nil
abbrev Zy := @List.getElem_of_mem
abbrev Zz := @List.idxOf_lt_length_iff
abbrev ZA := @List.mem_cons_self
abbrev ZB := @Nat.min_le_right
abbrev ZC := @List.mem_singleton
abbrev ZD := @Nat.not_lt
abbrev ZE := @Nat.zero_le
abbrev ZF := @List.lookup_cons
abbrev ZG := @List.take_of_length_le
abbrev ZH := @List.mem_append
abbrev ZI := @List.length_replicate
abbrev ZJ := @Nat.lt_irrefl
abbrev ZK := @List.mem_cons
abbrev ZL := @List.length_cons
abbrev ZM := @List.map_cons
abbrev ZN := @Array.length_toList
abbrev ZO := @List.length_range
abbrev ZP := @List.length_drop
abbrev ZQ := @List.all_eq_true
abbrev ZR := @Nat.ne_of_gt
abbrev ZS := @List.length_eraseIdx_of_lt
abbrev ZT := @List.mem_range
abbrev ZU := @List.range_succ
abbrev ZV := @List.mem_append_left
abbrev ZW := @List.nodup_cons
abbrev ZX := @List.mem_filterMap
abbrev ZY := @List.eraseIdx_eq_take_drop_succ
abbrev ZZ := @List.length_nil
abbrev Yb := @List.mem_of_mem_eraseIdx
abbrev Yc := @List.getElem?_replicate
abbrev Yd := @List.length_zipWith
abbrev Ye := @List.append_nil
abbrev Yg := @Nat.lt_succ_of_lt
abbrev Yh := @List.nodup_append
abbrev Yi := @List.length_eq_zero_iff
abbrev Yj := @List.find?_cons
abbrev Yk := @Option.map_some
abbrev Yl := @Int.emod_lt_of_pos
abbrev Ym := @Nat.lt_of_le_of_lt
abbrev Yn := @List.getElem?_eraseIdx
abbrev Yo := @List.length_singleton
abbrev Yp := @List.max?_eq_some_iff
abbrev Yq := @List.length_eraseIdx
abbrev Yr := @Int.le_refl
abbrev Ys := @Option.isSome_iff_exists
abbrev Yt := @List.map_nil
abbrev Yu := @List.getElem?_drop
abbrev Yv := @List.getElem_idxOf
abbrev Yw := @List.getElem?_cons_succ
abbrev Yx := @Nat.le_succ
abbrev Yy := @List.getElem_inj
abbrev Yz := @Nat.lt_succ_self
abbrev YA := @Nat.succ_le_succ
abbrev YB := @List.mem_flatten
abbrev YC := @List.getElem?_eq_none
abbrev YD := @List.max?_eq_none_iff
abbrev YE := @List.dropLast_eq_take
abbrev YF := @Nat.le_of_lt
abbrev YG := @Nat.min_self
abbrev YH := @Nat.not_lt_zero
abbrev YI := @Int.emod_nonneg
abbrev YJ := @List.map_map
abbrev YK := @List.sum_append
abbrev YL := @List.filterMap_cons
abbrev YM := @List.replicate_succ
abbrev YN := @List.nodup_nil
abbrev YO := @Nat.mul_le_mul
abbrev YQ := @Nat.le_succ_of_le
abbrev YR := @List.pairwise_map
abbrev YS := @List.of_mem_zip
abbrev YT := @List.foldl_cons
abbrev YU := @Nat.min_eq_left
-- CHANGE: your row's module here, as the last of these rows
set_option Elab.async false
set_option maxHeartbeats 8000000
set_option linter.all false
set_option maxRecDepth 100000
namespace L2
open PySem PySem.Spec PyProof.Rows
abbrev Key := Sum Int Str
def iy : Key -> Value -> Bool
  | .inl k, v => Value.isInt k v
  | .inr x, v => Value.isStrOf x v
def keyH (w : World) : Key -> Int
  | .inl k => hashInt k
  | .inr x => hashStr w x
theorem xy : ∀ {k : Key} {v : Value}, iy k v = true -> (∃ i t, k = Sum.inl i /\ v = Value.int i t) \/ (∃ x t, k = Sum.inr x /\ v = Value.str x t)
  | .inl i, v, h => by
    obtain ⟨t, e⟩ := Value.isInt_shape (k := i) (v := v) h;exact .inl ⟨i, t, rfl, e⟩
  | .inr x, v, h => by
    obtain ⟨t, e⟩ := Value.isStrOf_shape (x := x) (v := v) h;exact .inr ⟨x, t, rfl, e⟩
theorem zgm (i : Int) (t : Tok) : iy (.inl i) (.int i t) = true := by simp [iy, Value.isInt]
theorem zfq (x : Str) (t : Tok) : iy (.inr x) (.str x t) = true := by simp [iy, Value.isStrOf]
theorem key_ll (a b : Int) : decide ((Sum.inl a : Key) = Sum.inl b) = (a == b) := by
  by_cases e : a = b
  . subst e; simp
  . have h : ¬ (Sum.inl a : Key) = Sum.inl b := fun q => e (Sum.inl.inj q)
    rw [decide_eq_false h];exact (beq_eq_false_iff_ne.mpr e).symm
theorem key_rr (a b : Str) : decide ((Sum.inr a : Key) = Sum.inr b) = decide (a = b) := by
  by_cases e : a = b
  . subst e; simp
  . have h : ¬ (Sum.inr a : Key) = Sum.inr b := fun q => e (Sum.inr.inj q)
    rw [decide_eq_false h, decide_eq_false e]
theorem key_lr (a : Int) (b : Str) : decide ((Sum.inl a : Key) = Sum.inr b) = false := decide_eq_false (fun q => nomatch q)
theorem key_rl (a : Str) (b : Int) : decide ((Sum.inr a : Key) = Sum.inl b) = false := decide_eq_false (fun q => nomatch q)
def wy (prog : Program) (w : World) : PySem.KeyKind prog w Key where
  is := iy
  hash := keyH w
  inj := fun v a b ha hb => by
    rcases xy ha with ⟨i, t, rfl, rfl⟩ | ⟨x, t, rfl, rfl⟩
    . rcases xy hb with ⟨j, u, rfl, e⟩ | ⟨y, u, rfl, e⟩
      . injection e with e1 _; rw [e1]
      . exact nomatch e
    . rcases xy hb with ⟨j, u, rfl, e⟩ | ⟨y, u, rfl, e⟩
      . exact nomatch e
      . injection e with e1 _; rw [e1]
  byValue := fun k v h => by
    rcases xy h with ⟨i, t, rfl, rfl⟩ | ⟨x, t, rfl, rfl⟩ <;> rfl
  pyHash := fun hv h => by
    rcases xy hv with ⟨i, t, rfl, rfl⟩ | ⟨x, t, rfl, rfl⟩
    . exact wpAny_pyHash_int h
    . exact wpAny_pyHash_str h
  eqBool := fun hu hv h => by
    rcases xy hu with ⟨i, t, rfl, rfl⟩ | ⟨x, t, rfl, rfl⟩
    . rcases xy hv with ⟨j, u, rfl, rfl⟩ | ⟨y, u, rfl, rfl⟩
      . rw [key_ll] at h; exact wpAny_eqBool_int h
      . rw [key_lr] at h; exact SeqAt.EqAt.int_str i t y u _ _ _ _ h
    . rcases xy hv with ⟨j, u, rfl, rfl⟩ | ⟨y, u, rfl, rfl⟩
      . rw [key_rl] at h; exact SeqAt.EqAt.str_int x t j u _ _ _ _ h
      . rw [key_rr] at h; exact wpAny_eqBool_str h
  «strs» := fun k x t v h => by
    rcases xy h with ⟨i, u, rfl, e⟩ | ⟨y, u, rfl, e⟩
    . exact nomatch e
    . injection e with e1 _
      subst e1;cases v <;> rfl
theorem zb3 (prog : Program) (w : World) (i : Int) (t : Tok) : (wy prog w).is (.inl i) (.int i t) = true := zgm i t
theorem zcf (prog : Program) (w : World) (x : Str) (t : Tok) : (wy prog w).is (.inr x) (.str x t) = true := zfq x t
end L2
namespace L2
open PySem PySem.Spec PyProof.Rows
inductive V where
  | non | bl (b : Bool) | int (i : Int) | str (x : Str) | byt (b : Array UInt8) | flt (b : UInt64) | ref (a : Addr) | ty (n : String)
  deriving DecidableEq
def RelV : V -> Value -> Prop
  | .non, u => u = Value.none
  | .bl b, u => u = Value.bool b
  | .int i, u => ∃ t, u = Value.int i t
  | .str x, u => ∃ t, u = Value.str x t
  | .byt b, u => ∃ t, u = Value.bytes b t
  | .flt b, u => ∃ t, u = Value.float b t
  | .ref a, u => u = Value.ref a
  | .ty n, u => u = Value.type n
abbrev Vals : List V -> List Value -> Prop := Paired RelV
theorem Vals.length {xs : List V} {us : List Value} (r : Vals xs us) : xs.length = us.length := Paired.length r
theorem Vals.get : ∀ {xs : List V} {us : List Value} {i : Nat} {x : V}, Vals xs us -> xs[i]? = some x -> ∃ u, us[i]? = some u /\ RelV x u
  | _, _, _, _, .nil, e => by simp at e
  | _, _, 0, _, .cons r _, e => by simp at e; subst e; exact ⟨_, rfl, r⟩
  | _, _, i + 1, x, .cons _ t, e => by
    obtain ⟨u, h1, h2⟩ := Vals.get (i := i) (x := x) t (by simpa using e);exact ⟨u, by simpa using h1, h2⟩
theorem Vals.append : ∀ {xs ys : List V} {us ws : List Value}, Vals xs us -> Vals ys ws -> Vals (xs ++ ys) (us ++ ws)
  | _, _, _, _, .nil, s => s
  | _, _, _, _, .cons r t, s => .cons r (Vals.append t s)
theorem Vals.take : ∀ {xs : List V} {us : List Value} (n : Nat), Vals xs us -> Vals (xs.take n) (us.take n)
  | _, _, 0, _ => .nil
  | _, _, _ + 1, .nil => .nil
  | _, _, n + 1, .cons r t => .cons r (Vals.take n t)
theorem Vals.drop : ∀ {xs : List V} {us : List Value} (n : Nat), Vals xs us -> Vals (xs.drop n) (us.drop n)
  | _, _, 0, r => r
  | _, _, _ + 1, .nil => .nil
  | _, _, n + 1, .cons _ t => Vals.drop n t
def RelO : Option V -> Option Value -> Prop
  | some v, some u => RelV v u
  | none, none => True
  | _, _ => False
def KV {κ : Type} : List (κ × V) -> List (κ × Value) -> Prop := Paired fun (p : κ × V) (q : κ × Value) => p.1 = q.1 /\ RelV p.2 q.2
def kV : Key -> V
  | .inl i => .int i
  | .inr x => .str x
inductive HO where
    | lst (xs : List V)
    | tup (xs : List V)
    | dK (kvs : List (Key × V)) | dT (kvs : List (List Key × V))
    | set (S : Int -> Bool) (n : Nat)
    | ins (C dx : Addr) (fs : List (Str × V))
    | own (x : Addr)
    | xd (fs : List (Str × V))
    | met (f x : Addr)
    | rng (lo hi : Int)
    | frz (o : Obj) (u : HO)
    | tbl (ps : Array Value)
    | ext (φ : Heap -> Prop)
abbrev Hp := Addr -> Option HO
def upd (H : Hp) (a : Addr) (o : HO) : Hp := fun b => if b = a then some o else H b
theorem zf {H : Hp} {a : Addr} {o : HO} : upd H a o a = some o := by unfold upd; rw [if_pos rfl]
theorem zr {H : Hp} {a b : Addr} {o : HO} (h : b ≠ a) : upd H a o b = H b := by unfold upd; rw [if_neg h]
theorem y0 {H : Hp} {a b : Addr} {o : HO} (h : H a = some o) (h' : H b = none) : a ≠ b := by
  intro e; subst e; rw [h] at h'; cases h'
def IsTupD (h : Heap) (a : Addr) (items : Array Value) : Prop := ∃ o, h.get? a = some o /\ o.cls = .type "tuple" /\ ∃ n, o.data = .seq items n /\ o.dict = none
theorem IsTupD.tup {h : Heap} {a : Addr} {items : Array Value} (q : IsTupD h a items) : IsTup h a items := by
  obtain ⟨o, e, c, n, d, _⟩ := q;exact ⟨o, e, c, n, d⟩
theorem IsTupD.new (h : Heap) (items : Array Value) : IsTupD (h.push { cls := .type "tuple", data := .seq items }) h.objs.size items := ⟨_, Heap.get?_push_size _ rfl, rfl, _, rfl, rfl⟩
section
variable (P : Program) (w : World)
def ObjOk (H : Hp) (h : Heap) (a : Addr) : HO -> Prop
  | .lst xs => xs.length <= sizeLine /\ ∃ (its : List Value) (n : Nat), Vals xs its /\ h.get? a = some { cls := .type "list", data := .seq its.toArray n }
  | .tup xs => xs.length <= sizeLine /\ ∃ its : List Value, Vals xs its /\ IsTupD h a its.toArray
  | .dK kvs => kvs.length <= sizeLine /\ (a == sysModules) = false /\ ∃ vs, KV kvs vs /\ h.DictOf (wy P w) a vs
  | .dT kvs => kvs.length <= sizeLine /\ (a == sysModules) = false /\ ∃ xs : List (List Key × Addr × Value),
      Paired (fun (p : List Key × V) (q : List Key × Addr × Value) => p.1 = q.1 /\ H q.2.1 = some (.tup (p.1.map kV)) /\ RelV p.2 q.2.2) kvs xs /\
      ∃ o es ep, h.get? a = some o /\ o.ExactDict /\ o.data = .dict es ep /\ es.toList = xs.map (entryOfKey (tupleKind (wy P w))) /\ (xs.map (·.1)).Nodup
  | .set S n => h.SetOf (intKind P w) a S n
  | .ins C dx fs => H dx = some (.own a) /\ fs.length <= 1000 /\ dx ≠ a /\ h.get? a = some (PySem.W.instObj C dx) /\
      ∃ mA, h.Ns1 dx mA /\ (∀ f, RelO (fs.lookup f) (mA f)) /\ PySem.Within mA (fs.map (·.1))
  | .own _ => ∃ o, h.get? a = some o
  | .xd fs => ∃ mA, h.Ns1 a mA /\ ∀ f, RelO (fs.lookup f) (mA f)
  | .rng lo hi => ∃ t u v, h.get? a = some { cls := .type "range", data := .fields #[.int lo t, .int hi u, .int 1 v] }
  | .frz o u => h.get? a = some o /\ ObjOk H h a u
  | .tbl ps => h.get? a = some { cls := .none, data := .fields ps }
  | .met f x => h.get? a = some (PySem.W.methodObj (.ref f) (.ref x))
  | .ext φ => φ h /\ (∃ o, h.get? a = some o) /\ ∀ h1 h2 : Heap, φ h1 -> (∀ o, h1.get? a = some o -> h2.get? a = some o) -> φ h2
def HOk (H : Hp) (h : Heap) : Prop := ∀ a o, H a = some o -> ObjOk P w H h a o
end
section
variable {P : Program} {w : World} {H H' : Hp} {h h' : Heap} {a : Addr} {o : HO}
theorem ObjOk.lt (x : ObjOk P w H h a o) : a < h.objs.size := by
  cases o with
  | lst xs => obtain ⟨_, _, _, _, e⟩ := x; exact Heap.lt_size e
  | tup xs => obtain ⟨_, _, _, p⟩ := x; exact p.tup.lt
  | dK kvs => obtain ⟨_, _, _, _, o, _, _, e, _⟩ := x; exact Heap.lt_size e
  | dT kvs => obtain ⟨_, _, _, _, o, _, _, e, _⟩ := x; exact Heap.lt_size e
  | set S n => obtain ⟨o, _, _, _, e, _⟩ := x; exact Heap.lt_size e
  | ins C dx fs => obtain ⟨_, _, _, e, _⟩ := x; exact Heap.lt_size e
  | own y => obtain ⟨_, e⟩ := x; exact Heap.lt_size e
  | xd fs => obtain ⟨_, ⟨_, _, _, e, _⟩, _⟩ := x; exact Heap.lt_size e
  | rng lo hi => obtain ⟨_, _, _, e⟩ := x; exact Heap.lt_size e
  | frz ob u => obtain ⟨e, _⟩ := x; exact Heap.lt_size e
  | tbl ps => exact Heap.lt_size (show h.get? a = some _ from x)
  | met f y => exact Heap.lt_size (show h.get? a = some _ from x)
  | ext φ => obtain ⟨_, ⟨_, e⟩, _⟩ := x; exact Heap.lt_size e
theorem Paired.mapP {α β : Type} {F G : α -> β -> Prop} : ∀ {l₁ : List α} {l₂ : List β}, Paired F l₁ l₂ -> (∀ a b, F a b -> G a b) -> Paired G l₁ l₂
  | _, _, .nil, _ => .nil
  | _, _, .cons r t, f => .cons (f _ _ r) (Paired.mapP t f)
theorem ObjOk.stay (x : ObjOk P w H h a o) (k : ∀ b u, (b = a \/ H b = some (.own a)) -> h.get? b = some u -> h'.get? b = some u)
    (ho : ∀ b, H b = some (.own a) -> H' b = some (.own a)) (ht : ∀ b xs, H b = some (.tup xs) -> H' b = some (.tup xs)) : ObjOk P w H' h' a o := by
  induction o with
  | lst xs => obtain ⟨z, its, n, r, e⟩ := x; exact ⟨z, its, n, r, k _ _ (.inl rfl) e⟩
  | tup xs => obtain ⟨z, its, r, ob, e, c⟩ := x; exact ⟨z, its, r, ob, k _ _ (.inl rfl) e, c⟩
  | dK kvs => obtain ⟨z, y, vs, r, ob, es, ep, e, c⟩ := x; exact ⟨z, y, vs, r, ob, es, ep, k _ _ (.inl rfl) e, c⟩
  | dT kvs =>
    obtain ⟨z, y, xs, r, ob, es, ep, e, c⟩ := x;exact ⟨z, y, xs, Paired.mapP r fun p q z => ⟨z.1, ht _ _ z.2.1, z.2.2⟩, ob, es, ep, k _ _ (.inl rfl) e, c⟩
  | set S n => obtain ⟨ob, es, ep, t, e, c⟩ := x; exact ⟨ob, es, ep, t, k _ _ (.inl rfl) e, c⟩
  | ins C dx fs =>
    obtain ⟨d, z, ne, e, mA, ⟨od, es, ep, e2, c⟩, r⟩ := x;exact ⟨ho _ d, z, ne, k _ _ (.inl rfl) e, mA, ⟨od, es, ep, k _ _ (.inr d) e2, c⟩, r⟩
  | own y => obtain ⟨ob, e⟩ := x; exact ⟨ob, k _ _ (.inl rfl) e⟩
  | xd fs => obtain ⟨mA, ⟨od, es, ep, e, c⟩, r⟩ := x; exact ⟨mA, ⟨od, es, ep, k _ _ (.inl rfl) e, c⟩, r⟩
  | rng lo hi => obtain ⟨t, u, v, e⟩ := x; exact ⟨t, u, v, k _ _ (.inl rfl) e⟩
  | frz ob u ih => obtain ⟨e, q⟩ := x; exact ⟨k _ _ (.inl rfl) e, ih q⟩
  | tbl ps =>
    have e : h.get? a = some { cls := .none, data := .fields ps } := x
    show h'.get? a = some { cls := .none, data := .fields ps }
    exact k a _ (.inl rfl) e
  | met f y =>
    have e : h.get? a = some (PySem.W.methodObj (.ref f) (.ref y)) := x
    show h'.get? a = some (PySem.W.methodObj (.ref f) (.ref y))
    exact k a _ (.inl rfl) e
  | ext φ => obtain ⟨p, ⟨o, e⟩, st⟩ := x; exact ⟨st _ _ p fun o q => k _ _ (.inl rfl) q, ⟨o, k _ _ (.inl rfl) e⟩, st⟩
theorem HOk.lt (x : HOk P w H h) (e : H a = some o) : a < h.objs.size := (x a o e).lt
theorem HOk.fresh (x : HOk P w H h) (e : h.objs.size <= a) : H a = none := by
  cases q : H a with
  | none => rfl
  | some u => exact absurd (Zh (x.lt q) e) (ZJ _)
theorem HOk.kept (x : HOk P w H h) (k : ∀ b u, h.get? b = some u -> h'.get? b = some u) : HOk P w H h' := fun a o e =>
  (x a o e).stay (fun b u _ q => k b u q) (fun _ q => q) fun _ _ q => q
theorem HOk.laid (x : HOk P w H h) (k : ∀ b u, h.get? b = some u -> h'.get? b = some u) (hp : h.objs.size <= a) (new : ObjOk P w (upd H a o) h' a o) : HOk P w (upd H a o) h' := fun b u e => by
  have hn := x.fresh hp
  by_cases hb : b = a
  . subst hb; rw [zf] at e; cases e; exact new
  . rw [zr hb] at e
    exact (x b u e).stay (fun c v _ q => k c v q) (fun c q => by rw [zr (y0 q hn)]; exact q) fun c xs q => by rw [zr (y0 q hn)]; exact q
end
def Rd (H : Hp) (a : Addr) (u : HO) : Prop := H a = some u \/ ∃ o, H a = some (.frz o u)
theorem Rd.of {H : Hp} {a : Addr} {u : HO} (h : H a = some u) : Rd H a u := .inl h
theorem Rd.ok {P : Program} {w : World} {H : Hp} {h : Heap} {a : Addr} {u : HO} (r : Rd H a u) (x : HOk P w H h) : ObjOk P w H h a u := by
  rcases r with r | ⟨o, r⟩
  . exact x a u r
  . obtain ⟨_, q⟩ := x a _ r
    exact q
def Mut : Option HO -> Prop
  | some (.lst _) => True
  | some (.dK _) => True
  | some (.dT _) => True
  | some (.set _ _) => True
  | some (.ins _ _ _) => True
  | some (.ext _) => True
  | _ => False
section
variable {P : Program} {w : World} {H : Hp} {h h' : Heap} {x e : Addr} {o' : HO}
theorem HOk.write (ok : HOk P w H h) (mu : Mut (H x)) (he : e = x \/ H e = some (.own x)) (k : ∀ b u, b ≠ e -> h.get? b = some u -> h'.get? b = some u) (heo : ∃ u, h'.get? e = some u)
    (new : ObjOk P w (upd H x o') h' x o') : HOk P w (upd H x o') h' := fun b u q => by
  have nown : ∀ c y, H c = some (.own y) -> c ≠ x := fun c y r z => by subst z; rw [r] at mu; exact mu
  have ntup : ∀ c xs, H c = some (.tup xs) -> c ≠ x := fun c xs r z => by subst z; rw [r] at mu; exact mu
  by_cases hb : b = x
  . subst hb; rw [zf] at q; cases q; exact new
  . rw [zr hb] at q
    by_cases hbe : b = e
    . have q' : H b = some (.own x) := by
        rcases he with z | z
        . exact absurd (hbe.trans z) hb
        . rw [hbe]; exact z
      rw [q] at q'; cases q';obtain ⟨v, hv⟩ := heo;exact ⟨v, by rw [hbe]; exact hv⟩
    . refine (ok b u q).stay (fun c v hc r => k c v ?_ r) (fun c r => by rw [zr (nown c b r)]; exact r) fun c xs r => by rw [zr (ntup c xs r)]; exact r
      rcases hc with rfl | hc
      . exact hbe
      . rintro rfl
        rcases he with z | z
        . exact nown c b hc z
        . rw [hc] at z; cases z; exact hb rfl
end
structure Un (fs ex : List Addr) (H H' : Hp) (h h' : Heap) : Prop where
  keep : ∀ b o, h.get? b = some o -> H b = none -> b ∉ fs -> b ∉ ex -> h'.get? b = some o
  slot : ∀ b o, h.get? b = some o -> H b = none -> b ∈ fs -> b ∉ ex -> ∃ sl, h'.get? b = some { o with slots := sl }
  free : ∀ b o, h.get? b = some o -> H b = none -> b ∉ ex -> H' b = none
  there : ∀ b o, h.get? b = some o -> b ∉ ex -> ∃ o', h'.get? b = some o'
  tups : ∀ b xs, H b = some (.tup xs) -> H' b = some (.tup xs)
  frzs : ∀ b o u, H b = some (.frz o u) -> H' b = some (.frz o u)
  tbls : ∀ b ps, H b = some (.tbl ps) -> ∃ more, H' b = some (.tbl (ps ++ more))
section
variable {fs fs' ex ex' : List Addr} {H H1 H2 : Hp} {h h1 h2 h' : Heap} {a x e : Addr} {o : HO}
theorem Un.any (u : Un fs ex H H1 h h1) {b : Addr} {ob : Obj} (q : h.get? b = some ob) (n : H b = none) (hx : b ∉ ex) : ∃ sl, h1.get? b = some { ob with slots := sl } := by
  by_cases hb : b ∈ fs
  . exact u.slot b ob q n hb hx
  . exact ⟨ob.slots, u.keep b ob q n hb hx⟩
theorem Un.trans (a : Un fs ex H H1 h h1) (b : Un fs ex H1 H2 h1 h2) : Un fs ex H H2 h h2 where
  keep := fun c ob q n hc hx => b.keep c ob (a.keep c ob q n hc hx) (a.free c ob q n hx) hc hx
  slot := fun c ob q n hc hx => by
    obtain ⟨sl, e1⟩ := a.slot c ob q n hc hx;obtain ⟨sl', e2⟩ := b.slot c _ e1 (a.free c ob q n hx) hc hx;exact ⟨sl', e2⟩
  free := fun c ob q n hx => by
    obtain ⟨o', e1⟩ := a.there c ob q hx;exact b.free c o' e1 (a.free c ob q n hx) hx
  there := fun c ob q hx => by
    obtain ⟨o', e1⟩ := a.there c ob q hx;exact b.there c o' e1 hx
  tups := fun c xs q => b.tups c xs (a.tups c xs q)
  frzs := fun c ob xs q => b.frzs c ob xs (a.frzs c ob xs q)
  tbls := fun c ps q => by
    obtain ⟨m1, e1⟩ := a.tbls c ps q;obtain ⟨m2, e2⟩ := b.tbls c _ e1;exact ⟨m1 ++ m2, by rw [e2, Array.append_assoc]⟩
theorem Un.kept (k : ∀ b u, h.get? b = some u -> h'.get? b = some u) : Un fs ex H H h h' :=
  ⟨fun b ob q _ _ _ => k b ob q, fun b ob q _ _ _ => ⟨ob.slots, k b ob q⟩, fun _ _ _ n _ => n, fun b ob q _ => ⟨ob, k b ob q⟩, fun _ _ q => q, fun _ _ _ q => q, fun _ ps q => ⟨#[], by rw [q]; simp⟩⟩
theorem Un.refl : Un fs ex H H h h := Un.kept fun _ _ q => q
theorem Un.laid (k : ∀ b u, h.get? b = some u -> h'.get? b = some u) (hp : h.objs.size <= a) (hn : H a = none) : Un fs ex H (upd H a o) h h' where
  keep := fun b u q _ _ _ => k b u q
  slot := fun b u q _ _ _ => ⟨u.slots, k b u q⟩
  free := fun b u q n _ => by rw [zr (Zs (Zh (Heap.lt_size q) hp))]; exact n
  there := fun b u q _ => ⟨u, k b u q⟩
  tups := fun b xs q => by rw [zr (y0 q hn)]; exact q
  frzs := fun b u xs q => by rw [zr (y0 q hn)]; exact q
  tbls := fun b ps q => ⟨#[], by rw [zr (y0 q hn), q]; simp⟩
theorem Un.write (mu : Mut (H x)) (he : e = x \/ H e = some (.own x)) (k : ∀ b u, b ≠ e -> h.get? b = some u -> h'.get? b = some u) (heo : ∃ u, h'.get? e = some u) : Un fs ex H (upd H x o) h h' := by
  have hx : ∀ b, H b = none -> b ≠ x := fun b n z => by subst z; rw [n] at mu; exact mu
  have hb : ∀ b, H b = none -> b ≠ e := fun b n z => by
    subst z
    rcases he with r | r
    . exact hx b n r
    . rw [n] at r; cases r
  have hm : ∀ b u, H b = some u -> ¬ Mut (some u) -> b ≠ x := fun b u q nm z => by subst z; rw [q] at mu; exact nm mu
  refine ⟨fun b u q n _ _ => k b u (hb b n) q, fun b u q n _ _ => ⟨u.slots, k b u (hb b n) q⟩, fun b u q n _ => by rw [zr (hx b n)]; exact n, fun b u q _ => ?_,
    fun b xs q => by rw [zr (hm b _ q fun z => z)]; exact q, fun b u xs q => by rw [zr (hm b _ q fun z => z)]; exact q, fun b ps q => ⟨#[], by rw [zr (hm b _ q fun z => z), q]; simp⟩⟩
  by_cases hbe : b = e
  . subst hbe; exact heo
  . exact ⟨u, k b u hbe q⟩
theorem Un.mono (u : Un fs ex H H1 h h1) (hs : ∀ b ∈ fs, b ∈ fs') (hx : ∀ b ∈ ex, b ∈ ex') : Un fs' ex' H H1 h h1 :=
  ⟨fun b ob q n hb he => u.keep b ob q n (fun z => hb (hs b z)) fun z => he (hx b z), fun _ _ q n _ he => u.any q n fun z => he (hx _ z), fun b ob q n he => u.free b ob q n fun z => he (hx b z), fun b ob q he => u.there b ob q fun z => he (hx b z), u.tups, u.frzs, u.tbls⟩
end
def trk (h : Heap) (H : Hp) : List Addr := (List.range h.objs.size).filter fun a => (H a).isSome
def hidT (h : Heap) (H : Hp) : Heap := PySem.W.hideAll h (trk h H)
theorem ze8 (h : Heap) (H : Hp) : (hidT h H).objs.size = h.objs.size := PySem.W.hideAll_size _ _
theorem zgs {h : Heap} {H : Hp} {b : Addr} {o : Obj} (e : h.get? b = some o) (n : H b = none) : (hidT h H).get? b = some o :=
  PySem.W.hideAll_get _ e fun hm => by
    have q : (H b).isSome = true := (List.mem_filter.mp hm).2;rw [n] at q; simp at q
theorem zic {h : Heap} {H : Hp} {b : Addr} {o : Obj} (e : (hidT h H).get? b = some o) : h.get? b = some o /\ H b = none := by
  have e' : h.get? b = some o := PySem.W.of_hideAll (trk h H) e;refine ⟨e', ?_⟩
  cases q : H b with
  | none => rfl
  | some x =>
    have hm : b ∈ trk h H := List.mem_filter.mpr ⟨ZT.mpr (Heap.lt_size e'), by simp [q]⟩;have z : (hidT h H).get? b = none := PySem.W.hideAll_none (trk h H) hm;rw [z] at e; cases e
def ziy (g h : Heap) (L : Addr) : List (Addr × Obj) := (List.range h.objs.size).filterMap fun a => if a = L \/ (g.get? a).isSome = true then none else (h.get? a).map fun o => (a, o)
def rest (g h : Heap) (L d : Addr) : List (Addr × Obj) := (ziy g h L).filter fun p => decide (p.1 ≠ d)
end L2
namespace L2
open PySem PySem.Spec PyProof.Rows
structure Mod (K : Fg) (mg : Str -> Option Value) (base : Heap) : Prop where
  kin : K.In base
  glob : base.Ns mainGlobals mg
  blt : ∃ mb, base.Ns builtinsNs mb /\ ∀ x : Str, x ≠ "__name__" -> mb x = bootBuiltins x
  nolimit : base.NoLimit
structure Cx where
  prog : Program
  w : World
  K : Fg
  mg : Str -> Option Value
  base : Heap
  A : Around
  N : List Str
  s₀ : Shared
  H₀ : Hp
  env : Env
  outer : List Env
  stack : List Env
  ex : List Addr
  fn : Str -> Bool
  calm : Bool
  pn : List (Addr × Obj)
  xe : Value -> Shared -> Prop
def frs (l : List Env) : List Addr := l.filterMap (·.frame)
abbrev Cx.fs (X : Cx) : List Addr := frs X.outer
def Vis (sc : Scope) (x : Str) : Prop := sc.names.lookup x = some .local \/ sc.names.lookup x = some .cell \/ sc.names.lookup x = some .free
def Loc (sc : Scope) (x : Str) : Prop := sc.names.lookup x = some .local \/ sc.names.lookup x = some .cell
def Look (env : Env) (h : Heap) (m : Str -> Option Value) (x : Str) (u : Value) : Prop :=
  (env.kindOf x = some .local /\ m x = some u) \/ ((env.kindOf x = some .cell \/ env.kindOf x = some .free) /\ ∃ c, env.cells.lookup x = some c /\ h.IsCell c (some u))
structure Cx.Ok (X : Cx) : Prop where
  mod : Mod X.K X.mg X.base
  kind : X.env.scope.kind = .function
  glob : X.env.globals = mainGlobals
  blt : X.env.builtins = builtinsNs
  above : X.s₀.heap.objs.size <= X.env.locals
  inj : ∀ x y c, X.env.cells.lookup x = some c -> X.env.cells.lookup y = some c -> x = y
  has : ∀ x, (X.env.kindOf x = some .cell \/ X.env.kindOf x = some .free) -> ∃ c, X.env.cells.lookup x = some c
  cab : ∀ x c, X.fn x = true -> X.env.cells.lookup x = some c -> X.s₀.heap.objs.size <= c
  hd : X.calm = true -> X.A.handled = none
  frames : X.A.frames = some X.stack
  stk : X.stack = X.outer \/ (X.stack = X.env :: X.outer /\ X.env.frame = some X.env.locals)
  exf : ∀ b ∈ X.ex, b ≠ X.env.locals /\ ∀ x c, X.env.cells.lookup x = some c -> c ≠ b
  bs : ∀ b o, X.base.get? b = some o -> X.s₀.heap.get? b = some o /\ X.H₀ b = none
  bsz : X.base.objs.size <= X.s₀.heap.objs.size
  noex : ∀ b o, X.base.get? b = some o -> b ∉ X.ex
  exfs : ∀ b ∈ X.ex, b ∉ X.fs
  funs : X.s₀.heap.FunFrames X.base X.outer
  frf : ∀ b ∈ X.fs, X.H₀ b = none
structure Inv (X : Cx) (pins : List (Addr × Obj)) (σ : List (Option V)) (H : Hp) (s : Shared) : Prop where
  ok : X.Ok
  os : s.os = X.s₀.os
  bare : AllBare s.gens
  base : Un X.fs X.ex X.H₀ H X.s₀.heap s.heap
  loc : ∃ m, s.heap.Ns X.env.locals m /\ ∀ (i : Nat) (x : Str) (v : V), X.N[i]? = some x -> σ[i]? = some (some v) -> Vis X.env.scope x -> ∃ u, RelV v u /\ Look X.env s.heap m x u
  cell : ∀ x c, X.env.cells.lookup x = some c -> ∃ v, s.heap.IsCell c v
  free : H X.env.locals = none
  freeC : ∀ x c, X.env.cells.lookup x = some c -> H c = none
  pin : ∀ p ∈ X.pn ++ pins, s.heap.get? p.1 = some p.2 /\ H p.1 = none /\ p.1 ≠ X.env.locals /\ p.1 ∉ X.fs /\ ∀ v, p.2.data ≠ .cell v
  hok : HOk X.prog X.w H s.heap
  len : σ.length = X.N.length
section
variable {X : Cx} {pins : List (Addr × Obj)} {σ : List (Option V)} {H H' : Hp} {s : Shared} {h' : Heap}
theorem Cx.Ok.nofr (ok : X.Ok) {b : Addr} {o : Obj} (e : X.base.get? b = some o) : b ∉ X.fs := fun hb => by
  have := (ok.funs.mem hb).1;rw [e] at this; cases this
theorem Inv.bs (I : Inv X pins σ H s) : ∀ b o, X.base.get? b = some o -> s.heap.get? b = some o /\ H b = none := fun b o e =>
  ⟨I.base.keep b o (I.ok.bs b o e).1 (I.ok.bs b o e).2 (I.ok.nofr e) (I.ok.noex b o e), I.base.free b o (I.ok.bs b o e).1 (I.ok.bs b o e).2 (I.ok.noex b o e)⟩
theorem Inv.bk (I : Inv X pins σ H s) : ∀ b o, X.base.get? b = some o -> s.heap.get? b = some o := fun b o e => (I.bs b o e).1
theorem Inv.mod (I : Inv X pins σ H s) : Mod X.K X.mg X.base := I.ok.mod
theorem Inv.kIn (I : Inv X pins σ H s) : X.K.In s.heap := I.ok.mod.kin.keeps I.bk
theorem Inv.lt (I : Inv X pins σ H s) : X.env.locals < s.heap.objs.size := let ⟨_, hn, _⟩ := I.loc; hn.lt
theorem Inv.sz (I : Inv X pins σ H s) : X.s₀.heap.objs.size <= s.heap.objs.size := Zd I.ok.above (YF I.lt)
theorem Inv.nofs (I : Inv X pins σ H s) {a : Addr} (h : s.heap.objs.size <= a) : a ∉ X.fs := fun hb => by
  obtain ⟨_, o, ho, _⟩ := I.ok.funs.mem hb;exact absurd (Zh (Heap.lt_size ho) (Zd I.sz h)) (ZJ _)
theorem Inv.cne (I : Inv X pins σ H s) : ∀ x c, X.env.cells.lookup x = some c -> c ≠ X.env.locals := fun x c e z => by
  obtain ⟨v, o, ho, hd⟩ := I.cell x c e;obtain ⟨m, ⟨o', es, ep, ho', hd', _⟩, _⟩ := I.loc;rw [z, ho'] at ho; cases ho; rw [hd'] at hd; cases hd
theorem Inv.funs (I : Inv X pins σ H s) : s.heap.FunFrames X.base X.outer := by
  have all : ∀ (l : List Env), (∀ b ∈ frs l, b ∈ X.fs) -> X.s₀.heap.FunFrames X.base l -> s.heap.FunFrames X.base l := by
    intro l
    induction l with
    | nil => intro _ _; trivial
    | cons env r ih =>
      intro hs hl;obtain ⟨hk, ⟨L, o, hf, hn, ho, hd⟩, hr⟩ := hl;have hL : L ∈ X.fs := hs L (by unfold frs; rw [YL, hf]; exact ZA);obtain ⟨sl, e⟩ := I.base.slot L o ho (I.ok.frf L hL) hL fun z => I.ok.exfs L z hL
      exact ⟨hk, ⟨L, _, hf, hn, e, hd⟩, ih (fun b hb => hs b (by unfold frs; rw [YL, hf]; exact Zv _ hb)) hr⟩
  exact all X.outer (fun _ hb => hb) I.ok.funs
theorem Inv.stack (I : Inv X pins σ H s) : s.heap.FunFrames X.base X.stack := by
  rcases I.ok.stk with e | ⟨e, hf⟩
  . rw [e]; exact I.funs
  . rw [e]
    obtain ⟨m, hn, _⟩ := I.loc;refine .cons (by rw [I.ok.kind]; decide) hf hn ?_ I.funs;exact Heap.get?_none_of_le (Zd I.ok.bsz I.ok.above)
theorem Inv.stkSub (I : Inv X pins σ H s) : ∀ b ∈ frs X.stack, b ∈ X.env.locals :: X.fs := fun b hb => by
  rcases I.ok.stk with e | ⟨e, hf⟩
  . rw [e] at hb; exact Zv _ hb
  . rw [e] at hb
    unfold frs at hb;rw [YL, hf] at hb;exact hb
theorem Inv.stkFree (I : Inv X pins σ H s) : ∀ b ∈ frs X.stack, H b = none := fun b hb => by
  rcases ZK.mp (I.stkSub b hb) with e | hb
  . rw [e]; exact I.free
  . obtain ⟨_, o, ho, _⟩ := I.ok.funs.mem hb
    exact I.base.free b o ho (I.ok.frf b hb) fun z => I.ok.exfs b z hb
theorem Inv.step {g' : Array GenState} {t' : Nat} {d' : Drawn} {ch : List Addr} (I : Inv X pins σ H s)
    (hch : ∀ b ∈ ch, (b ∈ X.ex \/ X.s₀.heap.objs.size <= b) /\ b ≠ X.env.locals /\ (∀ x c, X.env.cells.lookup x = some c -> c ≠ b) /\ ∀ p ∈ X.pn ++ pins, p.1 ≠ b)
    (keep : ∀ b o, b ≠ X.env.locals -> b ∉ X.fs -> b ∉ ch -> s.heap.get? b = some o -> H b = none -> h'.get? b = some o)
    (slot : ∀ b o, b ≠ X.env.locals -> b ∈ X.fs -> b ∉ ch -> s.heap.get? b = some o -> H b = none -> ∃ sl, h'.get? b = some { o with slots := sl }) (free : ∀ b o, b ∉ ch -> s.heap.get? b = some o -> H b = none -> H' b = none)
    (there : ∀ b o, b ∉ ch -> s.heap.get? b = some o -> ∃ o', h'.get? b = some o')
    (tups : ∀ b xs, H b = some (.tup xs) -> H' b = some (.tup xs)) (frzs : ∀ b o u, H b = some (.frz o u) -> H' b = some (.frz o u)) (tbls : ∀ b ps, H b = some (.tbl ps) -> ∃ more, H' b = some (.tbl (ps ++ more)))
    (ns : ∀ m, s.heap.Ns X.env.locals m -> h'.Ns X.env.locals m) (hok : HOk X.prog X.w H' h') (hg : AllBare g') :
    Inv X pins σ H' { s with heap := h', gens := g', drawn := d', toks := t' } := by
  have neL : ∀ b o, X.s₀.heap.get? b = some o -> b ≠ X.env.locals := fun b o e => Zs (Zh (Heap.lt_size e) I.ok.above)
  have neC : ∀ b o, X.s₀.heap.get? b = some o -> b ∉ X.ex -> b ∉ ch := fun b o e hx hb => by
    rcases (hch b hb).1 with z | z
    . exact hx z
    . exact absurd (Zh (Heap.lt_size e) z) (ZJ _)
  have cellK : ∀ x c, X.env.cells.lookup x = some c -> ∀ v, s.heap.IsCell c v -> h'.IsCell c v := fun x c e v ⟨o, ho, hd⟩ => by
    have nch : c ∉ ch := fun z => (hch c z).2.2.1 x c e rfl
    by_cases hc : c ∈ X.fs
    . obtain ⟨sl, q⟩ := slot c o (I.cne x c e) hc nch ho (I.freeC x c e)
      exact ⟨_, q, hd⟩
    . exact ⟨o, keep c o (I.cne x c e) hc nch ho (I.freeC x c e), hd⟩
  refine ⟨I.ok, I.os, hg, ⟨fun b o e n hb hx => ?_, fun b o e n hb hx => ?_, fun b o e n hx => ?_, fun b o e hx => ?_, fun b xs e => tups b xs (I.base.tups b xs e), fun b o xs e => frzs b o xs (I.base.frzs b o xs e), fun b ps e => ?_⟩, ?_, fun x c e => ?_, ?_, fun x c e => ?_, fun p hp => ?_, hok, I.len⟩
  . exact keep b o (neL b o e) hb (neC b o e hx) (I.base.keep b o e n hb hx) (I.base.free b o e n hx)
  . obtain ⟨sl, e1⟩ := I.base.slot b o e n hb hx
    obtain ⟨sl', e2⟩ := slot b _ (neL b o e) hb (neC b o e hx) e1 (I.base.free b o e n hx);exact ⟨sl', e2⟩
  . obtain ⟨o', e1⟩ := I.base.there b o e hx
    exact free b o' (neC b o e hx) e1 (I.base.free b o e n hx)
  . obtain ⟨o', e1⟩ := I.base.there b o e hx
    exact there b o' (neC b o e hx) e1
  . obtain ⟨m1, e1⟩ := I.base.tbls b ps e
    obtain ⟨m2, e2⟩ := tbls b _ e1;exact ⟨m1 ++ m2, by rw [e2, Array.append_assoc]⟩
  . obtain ⟨m, hn, hl⟩ := I.loc
    refine ⟨m, ns m hn, fun i x v e1 e2 e3 => ?_⟩;obtain ⟨u, r, l⟩ := hl i x v e1 e2 e3;refine ⟨u, r, ?_⟩
    rcases l with l | ⟨k, c, e, z⟩
    . exact .inl l
    . exact .inr ⟨k, c, e, cellK x c e _ z⟩
  . obtain ⟨v, z⟩ := I.cell x c e
    exact ⟨v, cellK x c e v z⟩
  . obtain ⟨m, ⟨o, _, _, ho, _⟩, _⟩ := I.loc
    exact free _ o (fun z => (hch _ z).2.1 rfl) ho I.free
  . obtain ⟨v, o, ho, hd⟩ := I.cell x c e
    exact free c o (fun z => (hch c z).2.2.1 x c e rfl) ho (I.freeC x c e)
  . obtain ⟨e, n, ne, nf, d⟩ := I.pin p hp
    have nch : p.1 ∉ ch := fun z => (hch p.1 z).2.2.2 p hp rfl
    exact ⟨keep p.1 p.2 ne nf nch e n, free p.1 p.2 nch e n, ne, nf, d⟩
theorem Inv.un {t' : Nat} (I : Inv X pins σ H s) (u : Un X.fs [] H H' s.heap h') (hok : HOk X.prog X.w H' h') : Inv X pins σ H' { s with heap := h', toks := t' } := by
  obtain ⟨m, ⟨o, es, ep, ho, r⟩, _⟩ := id I.loc;obtain ⟨sl, hL⟩ := u.any ho I.free (by simp)
  exact I.step (g' := s.gens) (d' := s.drawn) (ch := []) (fun _ z => nomatch z) (fun b o _ hb _ e n => u.keep b o e n hb (by simp)) (fun b o _ hb _ e n => u.slot b o e n hb (by simp)) (fun b o _ e n => u.free b o e n (by simp)) (fun b o _ e => u.there b o e (by simp)) u.tups u.frzs u.tbls (fun m' hm => by
    obtain ⟨o', es', ep', ho', r'⟩ := hm;rw [ho] at ho'; cases ho'
    exact ⟨_, es', ep', hL, r'⟩) hok I.bare
theorem Inv.call {g' : Array GenState} {t' : Nat} {d' : Drawn} {ch : List Addr} (I : Inv X pins σ H s) (u : Un (frs X.stack) ch H H' s.heap h') (hok : HOk X.prog X.w H' h') (hg : AllBare g')
    (hch : ∀ b ∈ ch, (b ∈ X.ex \/ X.s₀.heap.objs.size <= b) /\ b ≠ X.env.locals /\ (∀ x c, X.env.cells.lookup x = some c -> c ≠ b) /\ ∀ p ∈ X.pn ++ pins, p.1 ≠ b) :
    Inv X pins σ H' { s with heap := h', gens := g', drawn := d', toks := t' } := by
  obtain ⟨m, ⟨o, es, ep, ho, r⟩, _⟩ := id I.loc;obtain ⟨sl, hL⟩ := u.any ho I.free fun z => (hch _ z).2.1 rfl
  exact I.step (ch := ch) hch (fun b o hL hb hc e n => u.keep b o e n (fun z => (ZK.mp (I.stkSub b z)).elim hL hb) hc) (fun b o _ _ hc e n => u.any e n hc) (fun b o hc e n => u.free b o e n hc) (fun b o hc e => u.there b o e hc) u.tups u.frzs u.tbls (fun m' hm => by
    obtain ⟨o', es', ep', ho', r'⟩ := hm;rw [ho] at ho'; cases ho'
    exact ⟨_, es', ep', hL, r'⟩) hok hg
theorem Inv.turned {t' : Nat} {it : Addr} (I : Inv X pins σ H s) (k : ∀ b o, b ≠ it -> s.heap.get? b = some o -> h'.get? b = some o) (hn : H it = none) (hL : it ≠ X.env.locals)
    (h1 : it ∈ X.ex \/ X.s₀.heap.objs.size <= it) (h2 : ∀ x c, X.env.cells.lookup x = some c -> c ≠ it) (h3 : ∀ p ∈ X.pn ++ pins, p.1 ≠ it) : Inv X pins σ H { s with heap := h', toks := t' } := by
  have nit : ∀ b u, H b = some u -> b ≠ it := fun b u e z => by rw [z, hn] at e; cases e
  refine I.step (g' := s.gens) (d' := s.drawn) (ch := [it]) (fun b hb => ?_) (fun b o _ _ hc e _ => k b o (fun z => hc (by simp [z])) e) (fun b o _ _ hc e _ => ⟨o.slots, k b o (fun z => hc (by simp [z])) e⟩) (fun _ _ _ _ n => n)
    (fun b o hc e => ⟨o, k b o (fun z => hc (by simp [z])) e⟩) (fun _ _ e => e) (fun _ _ _ e => e) (fun b ps e => ⟨#[], by rw [e]; simp⟩) (fun m hm => ?_) (fun b u e => ?_) I.bare
  . have e : b = it := by simpa using hb
    subst e;exact ⟨h1, hL, h2, h3⟩
  . obtain ⟨o, es, ep, ho, r⟩ := hm
    exact ⟨o, es, ep, k _ o (Ne.symm hL) ho, r⟩
  . refine (I.hok b u e).stay (fun c v hc q => k c v ?_ q) (fun _ q => q) fun _ _ q => q
    rcases hc with z | z
    . rw [z]; exact nit b u e
    . exact nit c _ z
theorem Inv.tok (I : Inv X pins σ H s) (t : Nat) : Inv X pins σ H { s with toks := t } := I.un (h' := s.heap) (t' := t) Un.refl I.hok
theorem Inv.kept {t' : Nat} (I : Inv X pins σ H s) (k : ∀ b u, s.heap.get? b = some u -> h'.get? b = some u) : Inv X pins σ H { s with heap := h', toks := t' } := I.un (Un.kept k) (I.hok.kept k)
theorem Inv.laid {a : Addr} {o : HO} {t' : Nat} (I : Inv X pins σ H s) (k : ∀ b u, s.heap.get? b = some u -> h'.get? b = some u) (hp : s.heap.objs.size <= a) (new : ObjOk X.prog X.w (upd H a o) h' a o) :
    Inv X pins σ (upd H a o) { s with heap := h', toks := t' } := I.un (Un.laid k hp (I.hok.fresh hp)) (I.hok.laid k hp new)
theorem Inv.write {x e : Addr} {o : HO} {t' : Nat} (I : Inv X pins σ H s) (mu : Mut (H x)) (he : e = x \/ H e = some (.own x)) (k : ∀ b u, b ≠ e -> s.heap.get? b = some u -> h'.get? b = some u) (heo : ∃ u, h'.get? e = some u)
    (new : ObjOk X.prog X.w (upd H x o) h' x o) : Inv X pins σ (upd H x o) { s with heap := h', toks := t' } := I.un (Un.write mu he k heo) (I.hok.write mu he k heo new)
theorem Inv.weak {σ' : List (Option V)} (I : Inv X pins σ H s) (hl : σ'.length = σ.length) (w : ∀ (i : Nat) v, σ'[i]? = some (some v) -> σ[i]? = some (some v)) : Inv X pins σ' H s :=
  ⟨I.ok, I.os, I.bare, I.base, let ⟨m, hn, hl'⟩ := I.loc; ⟨m, hn, fun i x v e1 e2 e3 => hl' i x v e1 (w i v e2) e3⟩, I.cell, I.free, I.freeC, I.pin, I.hok, hl.trans I.len⟩
theorem Inv.pins_of {pins' : List (Addr × Obj)} (I : Inv X pins σ H s) (h : ∀ p ∈ pins', s.heap.get? p.1 = some p.2 /\ H p.1 = none /\ p.1 ≠ X.env.locals /\ p.1 ∉ X.fs /\ ∀ v, p.2.data ≠ .cell v) : Inv X pins' σ H s :=
  ⟨I.ok, I.os, I.bare, I.base, I.loc, I.cell, I.free, I.freeC, fun p hp => (ZH.mp hp).elim (fun z => I.pin p (ZV _ z)) (h p), I.hok, I.len⟩
theorem zbc {N : List Str} (hN : N.Nodup) {i j : Nat} {x : Str} (a : N[i]? = some x) (b : N[j]? = some x) : i = j := by
  obtain ⟨h1, e1⟩ := Zc.mp a;obtain ⟨h2, e2⟩ := Zc.mp b;exact (Yy hN).mp (e1.trans e2.symm)
theorem cw {M : Model} {A : Around} {E : Value -> Shared -> Prop} {i : Nat} {x : Str} {v : V} {u : Value} {Q : Unit -> Shared -> Prop} (I : Inv X pins σ H s) (hN : X.N.Nodup) (hi : X.N[i]? = some x) (hx : Loc X.env.scope x) (r : RelV v u)
    (h : ∀ s', Inv X pins (σ.set i (some v)) H s' -> (∃ a, Heap.SameBut a s.heap s'.heap /\ (a = X.env.locals \/ X.env.cells.lookup x = some a)) -> Q () s') (hf : X.fn x = true \/ X.env.scope.names.lookup x = some .local := by first | exact .inl rfl | exact .inr rfl | assumption) : wpAny M A (storeName X.env x u) Q E s := by
  obtain ⟨m, hn, hl⟩ := id I.loc;have hcls : (X.env.scope.kind == .class || (X.env.scope.kind == .module && X.env.locals != X.env.globals)) = false := by rw [I.ok.kind]; rfl
  have hiσ : i < σ.length := by rw [I.len]; exact (Zc.mp hi).1
  have cne := I.cne
  have tracked : ∀ {a : Addr} {h' : Heap}, (∃ o, s.heap.get? a = some o /\ H a = none) -> Heap.SameBut a s.heap h' -> HOk X.prog X.w H h' := fun {a h'} ha hs b ob e => by
    obtain ⟨_, _, hfree⟩ := ha;refine (I.hok b ob e).stay (fun c w' hc q => (hs.2 c ?_).trans q) (fun _ q => q) fun _ _ q => q
    rintro rfl
    rcases hc with rfl | hc
    . rw [hfree] at e; cases e
    . rw [hfree] at hc; cases hc
  rcases hx with hk | hk
  . refine wpAny_storeName_local hk hn (fun h' hn' hs => ?_) hcls
    obtain ⟨oL, _, _, hoL, _⟩ := id hn;refine h _ ⟨I.ok, I.os, I.bare, ⟨fun b o e n hb hx => ?_, fun b o e n hb hx => ?_, I.base.free, fun b o e hx => ?_, I.base.tups, I.base.frzs, I.base.tbls⟩, ⟨_, hn', fun j y v' e1 e2 e3 => ?_⟩, fun y c e => ?_, I.free, I.freeC, fun p hp => ?_, tracked ⟨oL, hoL, I.free⟩ hs, by simpa using I.len⟩ ⟨_, hs, .inl rfl⟩
    . exact (hs.2 b (Zs (Zh (Heap.lt_size e) I.ok.above))).trans (I.base.keep b o e n hb hx)
    . obtain ⟨sl, e1⟩ := I.base.slot b o e n hb hx
      exact ⟨sl, (hs.2 b (Zs (Zh (Heap.lt_size e) I.ok.above))).trans e1⟩
    . obtain ⟨o', e1⟩ := I.base.there b o e hx
      exact ⟨o', (hs.2 b (Zs (Zh (Heap.lt_size e) I.ok.above))).trans e1⟩
    . by_cases hj : j = i
      . subst hj
        rw [hi] at e1; cases e1;rw [List.getElem?_set_self hiσ] at e2;cases e2;exact ⟨u, r, .inl ⟨hk, by simp⟩⟩
      . rw [List.getElem?_set_ne (Ne.symm hj)] at e2
        obtain ⟨u', r', q⟩ := hl j y v' e1 e2 e3;refine ⟨u', r', ?_⟩
        rcases q with ⟨k, e⟩ | ⟨k, c, e, z⟩
        . refine .inl ⟨k, ?_⟩
          have : y ≠ x := fun e => hj (zbc hN e1 (e ▸ hi))
          simp [this, e]
        . exact .inr ⟨k, c, e, z.sameBut hs (cne y c e)⟩
    . obtain ⟨w', z⟩ := I.cell y c e
      exact ⟨w', z.sameBut hs (cne y c e)⟩
    . obtain ⟨e, n, ne, nf, d⟩ := I.pin p hp
      exact ⟨(hs.2 p.1 ne).trans e, n, ne, nf, d⟩
  . have hfn : X.fn x = true := by
      rcases hf with z | z
      . exact z
      . rw [z] at hk; cases hk
    obtain ⟨c, hc⟩ := I.ok.has x (.inl hk);obtain ⟨w', z⟩ := I.cell x c hc;refine wpAny_storeName_cell I.ok.kind hk hc z (fun h' hc' hs => ?_);obtain ⟨oc, hoc, hocd⟩ := id z;refine h { s with heap := h' } ⟨I.ok, I.os, I.bare, ⟨fun b o e n hb hx => ?_, fun b o e n hb hx => ?_, I.base.free, fun b o e hx => ?_, I.base.tups, I.base.frzs, I.base.tbls⟩, ⟨m, hn.sameBut hs (Ne.symm (cne x c hc)), fun j y v' e1 e2 e3 => ?_⟩, fun y c' e => ?_, I.free, I.freeC, fun p hp => ?_, tracked ⟨oc, hoc, I.freeC x c hc⟩ hs, by simpa using I.len⟩ ⟨c, hs, .inr hc⟩
    . exact (hs.2 b (Zs (Zh (Heap.lt_size e) (I.ok.cab x c hfn hc)))).trans (I.base.keep b o e n hb hx)
    . obtain ⟨sl, e1⟩ := I.base.slot b o e n hb hx
      exact ⟨sl, (hs.2 b (Zs (Zh (Heap.lt_size e) (I.ok.cab x c hfn hc)))).trans e1⟩
    . obtain ⟨o', e1⟩ := I.base.there b o e hx
      exact ⟨o', (hs.2 b (Zs (Zh (Heap.lt_size e) (I.ok.cab x c hfn hc)))).trans e1⟩
    . by_cases hj : j = i
      . subst hj
        rw [hi] at e1; cases e1;rw [List.getElem?_set_self hiσ] at e2;cases e2;exact ⟨u, r, .inr ⟨.inl hk, c, hc, hc'⟩⟩
      . rw [List.getElem?_set_ne (Ne.symm hj)] at e2
        obtain ⟨u', r', q⟩ := hl j y v' e1 e2 e3;refine ⟨u', r', ?_⟩
        rcases q with q | ⟨k, c', e, z'⟩
        . exact .inl q
        . refine .inr ⟨k, c', e, z'.sameBut hs ?_⟩
          rintro rfl
          exact hj (zbc hN e1 (I.ok.inj _ _ _ e hc ▸ hi))
    . by_cases hcc : c' = c
      . subst hcc; exact ⟨_, hc'⟩
      . obtain ⟨w2, z2⟩ := I.cell y c' e
        exact ⟨w2, z2.sameBut hs hcc⟩
    . obtain ⟨e, n, ne, nf, d⟩ := I.pin p hp
      refine ⟨(hs.2 p.1 ?_).trans e, n, ne, nf, d⟩;intro q;rw [q, hoc] at e;have q' : oc = p.2 := Option.some.inj e;exact d w' (by rw [<- q']; exact hocd)
theorem za3 {M : Model} {A : Around} {E : Value -> Shared -> Prop} {i : Nat} {x : Str} {v : V} {u : Value} {Q : Unit -> Shared -> Prop} (I : Inv X pins σ H s) (hN : X.N.Nodup) (hi : X.N[i]? = some x) (hx : Loc X.env.scope x) (r : RelV v u)
    (h : ∀ s', Inv X pins (σ.set i (some v)) H s' -> Q () s') (hf : X.fn x = true \/ X.env.scope.names.lookup x = some .local := by first | exact .inl rfl | exact .inr rfl | assumption) : wpAny M A (storeName X.env x u) Q E s :=
  cw I hN hi hx r (fun s' I' _ => h s' I') hf
theorem Inv.call' {s' : Shared} {ch : List Addr} (I : Inv X pins σ H s) (ho : s'.os = s.os) (u : Un (frs X.stack) ch H H' s.heap s'.heap) (hok : HOk X.prog X.w H' s'.heap) (hg : AllBare s'.gens)
    (hch : ∀ b ∈ ch, (b ∈ X.ex \/ X.s₀.heap.objs.size <= b) /\ b ≠ X.env.locals /\ (∀ x c, X.env.cells.lookup x = some c -> c ≠ b) /\ ∀ p ∈ X.pn ++ pins, p.1 ≠ b) : Inv X pins σ H' s' := by
  obtain ⟨h', g', d', t', o'⟩ := s';have e : o' = s.os := ho;subst e;exact I.call (g' := g') (t' := t') (d' := d') u hok hg hch
end
abbrev XK := Value -> Option Addr -> Hp -> Prop
abbrev St := List (Option V)
abbrev VK := V -> Hp -> Prop
abbrev TE := St -> Hp -> VK -> Prop
abbrev TT := St -> Hp -> (Bool -> Hp -> Prop) -> Prop
abbrev TA := St -> Hp -> (List V -> Hp -> Prop) -> Prop
structure Ends where
  nx : St -> Hp -> Prop
  rt : VK
  bk : St -> Hp -> Prop := fun _ _ => False
  ct : St -> Hp -> Prop := fun _ _ => False
abbrev TS := Ends -> St -> Hp -> Prop
def EP (X : Cx) (pins : List (Addr × Obj)) (σ : St) (Q : VK) (u : Value) (s' : Shared) : Prop := ∃ v H', Inv X pins σ H' s' /\ RelV v u /\ Q v H'
def TP (X : Cx) (pins : List (Addr × Obj)) (σ : St) (Q : Bool -> Hp -> Prop) (b : Bool) (s' : Shared) : Prop := ∃ H', Inv X pins σ H' s' /\ Q b H'
def AP (X : Cx) (pins : List (Addr × Obj)) (σ : St) (Q : List V -> Hp -> Prop) (us : List Value) (s' : Shared) : Prop := ∃ vs H', Inv X pins σ H' s' /\ Vals vs us /\ Q vs H'
def SP (X : Cx) (pins : List (Addr × Obj)) (D : Ends) (f : Flow) (s' : Shared) : Prop :=
  match f with
  | .next => ∃ σ' H', Inv X pins σ' H' s' /\ D.nx σ' H'
  | .brk => ∃ σ' H', Inv X pins σ' H' s' /\ D.bk σ' H'
  | .cont => ∃ σ' H', Inv X pins σ' H' s' /\ D.ct σ' H'
  | .ret u => ∃ v σ' H', Inv X pins σ' H' s' /\ RelV v u /\ D.rt v H'
def PE (X : Cx) (e : Expr) (t : TE) : Prop :=
  ∀ (pins : List (Addr × Obj)) (s : Shared) (σ : St) (H : Hp) (Q : VK), Inv X pins σ H s -> t σ H Q -> wpAny (model X.prog X.w) X.A (eval e X.env) (EP X pins σ Q) X.xe s
def PT (X : Cx) (e : Expr) (t : TT) : Prop :=
  ∀ (pins : List (Addr × Obj)) (s : Shared) (σ : St) (H : Hp) (Q : Bool -> Hp -> Prop), Inv X pins σ H s -> t σ H Q -> wpAny (model X.prog X.w) X.A (isTrue e X.env (eval e X.env)) (TP X pins σ Q) X.xe s
def PW (X : Cx) (e : Expr) (t : TT) : Prop :=
  ∀ (whole : Sem Value) (pins : List (Addr × Obj)) (s : Shared) (σ : St) (H : Hp) (Q : Bool -> Hp -> Prop), Inv X pins σ H s -> t σ H Q -> wpAny (model X.prog X.w) X.A (isTrue e X.env whole) (TP X pins σ Q) X.xe s
theorem PW.pt {X : Cx} {e : Expr} {t : TT} (h : PW X e t) : PT X e t := h _
def PA (X : Cx) (es : List Expr) (t : TA) : Prop :=
  ∀ (pos : Pos) (pins : List (Addr × Obj)) (s : Shared) (σ : St) (H : Hp) (Q : List V -> Hp -> Prop), Inv X pins σ H s -> t σ H Q -> wpAny (model X.prog X.w) X.A (spliced (backTo pos (starEach es X.env))) (AP X pins σ Q) X.xe s
def PS (X : Cx) (st : Stmt) (t : TS) : Prop :=
  ∀ (pins : List (Addr × Obj)) (s : Shared) (σ : St) (H : Hp) (D : Ends), Inv X pins σ H s -> t D σ H -> wpAny (model X.prog X.w) X.A (exec st X.env) (SP X pins D) X.xe s
def PSs (X : Cx) (st : List Stmt) (t : TS) : Prop :=
  ∀ (pins : List (Addr × Obj)) (s : Shared) (σ : St) (H : Hp) (D : Ends), Inv X pins σ H s -> t D σ H -> wpAny (model X.prog X.w) X.A (execs st X.env) (SP X pins D) X.xe s
theorem thn {α : Type} {t : Sem α} {Q Q' : α -> Shared -> Prop} {M : Model} {A : Around} {E : Value -> Shared -> Prop} {s : Shared} (h : wpAny M A t Q E s) (hQ : ∀ a s, Q a s -> Q' a s) : wpAny M A t Q' E s := wpAny_mono h hQ fun _ _ x => x
end L2
namespace L2
open PySem PySem.Spec PyProof.Rows
section
variable {X : Cx}
def tVar (i : Nat) : TE := fun σ H Q => ∃ v, σ[i]? = some (some v) /\ Q v H
def tC (v : V) : TE := fun _ H Q => Q v H
theorem pe_var {i : Nat} {x : Str} {pos : Pos} (hN : X.N[i]? = some x) (hv : Vis X.env.scope x) (hd : (x == ("__debug__" : Str)) = false := by decide) (hcd : (x == ("__classdict__" : Str)) = false := by decide) : PE X (.Name x pos) (tVar i) := by
  intro pins s σ H Q I h;obtain ⟨v, e, h⟩ := h;obtain ⟨m, hn, hl⟩ := I.loc;obtain ⟨u, r, l⟩ := hl i x v hN e hv;have fin : EP X pins σ Q u s := ⟨v, H, I, r, h⟩
  rcases l with ⟨hk, hm⟩ | ⟨hk, c, hc, hcell⟩
  . exact wpAny_Name (wpAny_loadName_local I.ok.kind hk hn hm fin) hd
  . rcases hk with hk | hk
    . exact wpAny_Name (wpAny_loadName_cell I.ok.kind hk hc hcell fin) hd
    . exact wpAny_Name (wpAny_loadName_free I.ok.kind hk hc hcell fin hcd) hd
theorem zj {i j pos} : PE X (.Constant (.int i) j pos) (tC (.int i)) := fun _ _ _ H _ I h => wpAny_Constant_int ⟨.int i, H, I.tok _, ⟨_, rfl⟩, h⟩
theorem v8 {b j pos} : PE X (.Constant (.bool b) j pos) (tC (.bl b)) := fun _ _ _ H _ I h => Constant_bool ⟨.bl b, H, I, rfl, h⟩
theorem qv {j pos} : PE X (.Constant .none j pos) (tC .non) := fun _ _ _ H _ I h => Constant_none ⟨.non, H, I, rfl, h⟩
theorem uz {x j pos} : PE X (.Constant (.str x) j pos) (tC (.str x)) := fun _ _ _ H _ I h => Calls.Constant_str ⟨.str x, H, I.tok _, ⟨_, rfl⟩, h⟩
def Gl (X : Cx) (x : Str) : Prop := X.env.kindOf x = some .globalImplicit
theorem ir {E : Value -> Shared -> Prop} {pins : List (Addr × Obj)} {s : Shared} {σ : St} {H : Hp} {x : Str} {u : Value} {pos : Pos} {Q : Value -> Shared -> Prop} (I : Inv X pins σ H s) (hg : Gl X x) (hm : X.mg x = some u) (h : Q u s)
    (hd : (x == ("__debug__" : Str)) = false := by decide) : wpAny (model X.prog X.w) X.A (eval (.Name x pos) X.env) Q E s :=
  Calls.Name_function_global I.ok.kind hg (Calls.loadGlobal_global (by rw [I.ok.glob]; exact I.mod.glob.keeps I.bk) hm h) hd
theorem ui {E : Value -> Shared -> Prop} {pins : List (Addr × Obj)} {s : Shared} {σ : St} {H : Hp} {x : Str} {u : Value} {pos : Pos} {Q : Value -> Shared -> Prop} (I : Inv X pins σ H s) (hg : Gl X x) (hm : X.mg x = none) (hv : bootBuiltins x = some u) (h : Q u s)
    (hn : x ≠ "__name__" := by decide) (hd : (x == ("__debug__" : Str)) = false := by decide) : wpAny (model X.prog X.w) X.A (eval (.Name x pos) X.env) Q E s := by
  obtain ⟨mb, h1, h2⟩ := I.mod.blt;exact Calls.Name_function_global I.ok.kind hg (Calls.loadGlobal_builtin (by rw [I.ok.glob]; exact I.mod.glob.keeps I.bk) hm (by rw [I.ok.blt]; exact h1.keeps I.bk) ((h2 x hn).trans hv) h) hd
theorem zdk {x : Str} {v : V} {u : Value} {pos : Pos} (hg : Gl X x) (hm : X.mg x = some u) (r : RelV v u) (hd : (x == ("__debug__" : Str)) = false := by decide) : PE X (.Name x pos) (tC v) :=
  fun _ _ _ H _ I h => ir I hg hm ⟨v, H, I, r, h⟩ hd
theorem zit {x : Str} {v : V} {u : Value} {pos : Pos} (hg : Gl X x) (hm : X.mg x = none) (hv : bootBuiltins x = some u) (r : RelV v u) (hn : x ≠ "__name__" := by decide) (hd : (x == ("__debug__" : Str)) = false := by decide) : PE X (.Name x pos) (tC v) :=
  fun _ _ _ H _ I h => ui I hg hm hv ⟨v, H, I, r, h⟩ hn hd
variable {a b : Expr} {ta tb : TE} {pos : Pos}
def tB (t : TE) : TT := fun σ H Q => t σ H fun x H1 => ∃ c, x = .bl c /\ Q c H1
theorem w5 {e : Expr} {t : TE} (h : PE X e t) (he : ∀ whole, isTrue e X.env whole = (do let v <- whole; standAt e.pos; holding [v] (truthy v)) := by intro _; rfl) : PT X e (tB t) := by
  intro pins s σ H Q I hw;refine isTrue_plain (thn (h pins s σ H _ I hw) fun v s1 ⟨x, H1, I1, r1, q1⟩ => ?_) (he _);obtain ⟨d, rfl, q⟩ := q1;cases r1;exact wpAny_truthy_bool ⟨H1, I1, q⟩
variable {tA tB' : TT} {rest : List Expr}
def tAnd (t u : TT) : TT := fun σ H Q => t σ H fun c H1 => if c = true then u σ H1 Q else Q false H1
def tOr (t u : TT) : TT := fun σ H Q => t σ H fun c H1 => if c = true then Q true H1 else u σ H1 Q
def tNot (t : TT) : TT := fun σ H Q => t σ H fun c H1 => Q (!c) H1
theorem nk (ha : PT X a tA) : PW X (.BoolOp .Or [a] pos) tA := by
  intro wh pins s σ H Q I h;refine isTrue_or (thn (ha pins s σ H Q I h) fun c s1 e => ?_)
  cases c with
  | false => exact isTrue_or_nil e
  | true => exact e
theorem mx (ha : PT X a tA) (hb : PW X (.BoolOp .Or (b :: rest) pos) tB') : PW X (.BoolOp .Or (a :: b :: rest) pos) (tOr tA tB') := by
  intro wh pins s σ H Q I h;refine isTrue_or (thn (ha pins s σ H _ I h) fun c s1 ⟨H1, I1, q1⟩ => ?_)
  cases c with
  | true => exact ⟨H1, I1, q1⟩
  | false => exact hb wh pins s1 σ H1 Q I1 q1
theorem wn (ha : PT X a tA) : PT X (.UnaryOp .Not a pos) (tNot tA) := by
  intro pins s σ H Q I h;exact isTrue_not (ha pins s σ H (fun c H1 => Q (!c) H1) I h)
def tAndV (ta tb : TE) : TE := fun σ H Q => ta σ H fun x H1 => ∃ c, x = .bl c /\ if c = true then tb σ H1 Q else Q (.bl false) H1
def tOrV (ta tb : TE) : TE := fun σ H Q => ta σ H fun x H1 => ∃ c, x = .bl c /\ if c = true then Q (.bl true) H1 else tb σ H1 Q
def tNotV (ta : TE) : TE := fun σ H Q => ta σ H fun x H1 => ∃ c, x = .bl c /\ Q (.bl (!c)) H1
theorem l9 {op} {t : TE} (h : PE X a t) : PE X (.BoolOp op [a] pos) t := fun pins s σ H Q I hw => BoolOp_one (h pins s σ H Q I hw)
theorem o8 (ha : PE X a ta) (hb : PE X (.BoolOp .And (b :: rest) pos) tb) : PE X (.BoolOp .And (a :: b :: rest) pos) (tAndV ta tb) := by
  intro pins s σ H Q I h;refine BoolOp_and (thn (ha pins s σ H _ I h) fun v s1 ⟨x, H1, I1, r1, q1⟩ => ?_);obtain ⟨c, rfl, q1⟩ := q1;cases r1;refine wpAny_truthy_bool ?_
  cases c with
  | true => exact hb pins s1 σ H1 Q I1 q1
  | false => exact ⟨.bl false, H1, I1, rfl, q1⟩
theorem pe_not (ha : PE X a ta) : PE X (.UnaryOp .Not a pos) (tNotV ta) := by
  intro pins s σ H Q I h;refine UnaryOp_ (thn (ha pins s σ H _ I h) fun v s1 ⟨x, H1, I1, r1, q1⟩ => ?_);obtain ⟨c, rfl, q1⟩ := q1;cases r1;exact not_of (wpAny_truthy_bool ⟨.bl (!c), H1, I1, rfl, q1⟩)
def tIf (t : TT) (ta tb : TE) : TE := fun σ H Q => t σ H fun c H1 => if c = true then ta σ H1 Q else tb σ H1 Q
theorem zhf {c : Expr} (hc : PT X c tA) (ha : PE X a ta) (hb : PE X b tb) : PE X (.IfExp c a b pos) (tIf tA ta tb) := by
  intro pins s σ H Q I h;refine wpAny_IfExp (thn (hc pins s σ H _ I h) fun d s1 ⟨H1, I1, q1⟩ => ?_)
  cases d with
  | true => exact ha pins s1 σ H1 Q I1 q1
  | false => exact hb pins s1 σ H1 Q I1 q1
end
end L2
namespace L2
open PySem PySem.Spec PyProof.Rows
def SqL (K : Fg) (H : Hp) (a : Addr) (xs : List V) : Prop :=
  Rd H a (.lst xs) \/
    ∃ (o : Obj) (its : Array Value) (n : Nat), K.lookup a = some o /\ o.cls = .type "list" /\ o.dict = none /\ o.data = .seq its n /\ its.size <= sizeLine /\ Vals xs its.toList
def SqT (K : Fg) (H : Hp) (a : Addr) (xs : List V) : Prop :=
  Rd H a (.tup xs) \/
    ∃ (o : Obj) (its : Array Value) (n : Nat), K.lookup a = some o /\ o.cls = .type "tuple" /\ o.data = .seq its n /\ its.size <= sizeLine /\ Vals xs its.toList
def absV : Value -> Option V
  | .none => some .non
  | .bool b => some (.bl b)
  | .int i _ => some (.int i)
  | .str x _ => some (.str x)
  | .bytes b _ => some (.byt b)
  | .float b _ => some (.flt b)
  | .ref a => some (.ref a)
  | .type n => some (.ty n)
  | _ => none
theorem RelV.abs {x : V} {u : Value} (r : RelV x u) : absV u = some x := by
  cases x with
  | non => cases r; rfl
  | bl _ => cases r; rfl
  | int _ => obtain ⟨t, rfl⟩ := r; rfl
  | str _ => obtain ⟨t, rfl⟩ := r; rfl
  | byt _ => obtain ⟨t, rfl⟩ := r; rfl
  | flt _ => obtain ⟨t, rfl⟩ := r; rfl
  | ref _ => cases r; rfl
  | ty _ => cases r; rfl
theorem RelV.inj {x y : V} {u : Value} (r : RelV x u) (q : RelV y u) : x = y := Option.some.inj (r.abs.symm.trans q.abs)
theorem Vals.inj : ∀ {xs ys : List V} {us : List Value}, Vals xs us -> Vals ys us -> xs = ys
  | _, _, _, .nil, .nil => rfl
  | _, _, _, .cons r t, .cons r' t' => by rw [r.inj r', Vals.inj t t']
section
variable {X : Cx} {pins : List (Addr × Obj)} {σ : St} {H : Hp} {s : Shared} {a : Addr} {xs ys : List V}
theorem SqL.of {K : Fg} (h : H a = some (.lst xs)) : SqL K H a xs := .inl (.inl h)
theorem SqT.of {K : Fg} (h : H a = some (.tup xs)) : SqT K H a xs := .inl (.inl h)
theorem Inv.list (I : Inv X pins σ H s) (h : SqL X.K H a xs) : ∃ its : List Value, Vals xs its /\ PlainL s.heap a its.toArray /\ xs.length <= sizeLine := by
  rcases h with h | ⟨o, its, n, hk, hc, hd, hs, hz, r⟩
  . obtain ⟨z, its, n, r, e⟩ := h.ok I.hok
    exact ⟨its, r, ⟨_, n, e, rfl, rfl, rfl⟩, z⟩
  . refine ⟨its.toList, r, ⟨o, n, I.kIn a o hk, hc, hd, by simpa using hs⟩, ?_⟩
    have e := r.length;simp only [ZN] at e;omega
theorem Inv.tuple (I : Inv X pins σ H s) (h : SqT X.K H a xs) : ∃ its : List Value, Vals xs its /\ IsTup s.heap a its.toArray /\ xs.length <= sizeLine := by
  rcases h with h | ⟨o, its, n, hk, hc, hs, hz, r⟩
  . obtain ⟨z, its, r, p⟩ := h.ok I.hok
    exact ⟨its, r, p.tup, z⟩
  . refine ⟨its.toList, r, ⟨o, I.kIn a o hk, hc, n, by simpa using hs⟩, ?_⟩
    have e := r.length;simp only [ZN] at e;omega
theorem Inv.list_inj (I : Inv X pins σ H s) (h : SqL X.K H a xs) (h' : SqL X.K H a ys) : xs = ys := by
  obtain ⟨its, r, ⟨o, n, e, _, _, d⟩, _⟩ := I.list h;obtain ⟨its', r', ⟨o', n', e', _, _, d'⟩, _⟩ := I.list h';rw [e] at e'; cases e';rw [d] at d'
  injection d' with d1 _
  have : its = its' := by simpa using congrArg Array.toList d1
  subst this;exact r.inj r'
theorem Inv.tuple_inj (I : Inv X pins σ H s) (h : SqT X.K H a xs) (h' : SqT X.K H a ys) : xs = ys := by
  obtain ⟨its, r, ⟨o, e, _, n, d⟩, _⟩ := I.tuple h;obtain ⟨its', r', ⟨o', e', _, n', d'⟩, _⟩ := I.tuple h';rw [e] at e'; cases e';rw [d] at d'
  injection d' with d1 _
  have : its = its' := by simpa using congrArg Array.toList d1
  subst this;exact r.inj r'
end
abbrev Cx.wish (X : Cx) (E : Value -> Shared -> Prop) : Cx := { X with xe := E }
abbrev Cx.nox (X : Cx) : Cx := X.wish fun _ _ => False
theorem Cx.Ok.wish {X : Cx} (ok : X.Ok) (E : Value -> Shared -> Prop) : (X.wish E).Ok :=
  ⟨ok.mod, ok.kind, ok.glob, ok.blt, ok.above, ok.inj, ok.has, ok.cab, ok.hd, ok.frames, ok.stk, ok.exf, ok.bs, ok.bsz, ok.noex, ok.exfs, ok.funs, ok.frf⟩
theorem Cx.Ok.unwish {X : Cx} {E : Value -> Shared -> Prop} (ok : (X.wish E).Ok) : X.Ok :=
  ⟨ok.mod, ok.kind, ok.glob, ok.blt, ok.above, ok.inj, ok.has, ok.cab, ok.hd, ok.frames, ok.stk, ok.exf, ok.bs, ok.bsz, ok.noex, ok.exfs, ok.funs, ok.frf⟩
section
variable {X : Cx} {pins : List (Addr × Obj)} {σ : St} {H : Hp} {s : Shared} {E : Value -> Shared -> Prop}
theorem Inv.wish (I : Inv X pins σ H s) (E : Value -> Shared -> Prop) : Inv (X.wish E) pins σ H s := ⟨I.ok.wish E, I.os, I.bare, I.base, I.loc, I.cell, I.free, I.freeC, I.pin, I.hok, I.len⟩
theorem Inv.unwish (I : Inv (X.wish E) pins σ H s) : Inv X pins σ H s := ⟨I.ok.unwish, I.os, I.bare, I.base, I.loc, I.cell, I.free, I.freeC, I.pin, I.hok, I.len⟩
theorem SP.unwish {D : Ends} {f : Flow} {s' : Shared} (h : SP (X.wish E) pins D f s') : SP X pins D f s' := by
  cases f with
  | next => obtain ⟨σ', H', I, q⟩ := h; exact ⟨σ', H', I.unwish, q⟩
  | brk => obtain ⟨σ', H', I, q⟩ := h; exact ⟨σ', H', I.unwish, q⟩
  | cont => obtain ⟨σ', H', I, q⟩ := h; exact ⟨σ', H', I.unwish, q⟩
  | ret u => obtain ⟨v, σ', H', I, r, q⟩ := h; exact ⟨v, σ', H', I.unwish, r, q⟩
theorem PSs.nox {st : List Stmt} {t : TS} (h : PSs X.nox st t) : PSs X st t := fun pins s σ H D I hw =>
  wpAny_mono (h pins s σ H D (I.wish _) hw) (fun _ _ q => q.unwish) fun _ _ z => False.elim z
end
section
variable {X : Cx} {st : Stmt} {rest : List Stmt} {t u : TS} {e : Expr} {te : TE} {pos : Pos}
def tNext : TS := fun D σ H => D.nx σ H
def tSeq (t u : TS) : TS := fun D σ H => t { D with nx := u D } σ H
theorem yg : PSs X [] tNext := fun _ _ σ H _ I h => wpAny_execs_nil ⟨σ, H, I, h⟩
theorem zk (h1 : PS X st t) (h2 : PSs X rest u) : PSs X (st :: rest) (tSeq t u) := by
  intro pins s σ H D I h;refine wpAny_execs_cons (thn (h1 pins s σ H { D with nx := u D } I h) fun f s1 q => ?_)
  cases f with
  | next =>
    obtain ⟨σ', H', I', q⟩ := q;exact h2 pins s1 σ' H' D I' q
  | ret v => exact q
  | brk => exact q
  | cont => exact q
theorem zg (h1 : PS X st t) : PSs X [st] t := by
  intro pins s σ H D I h;refine wpAny_execs_cons (thn (h1 pins s σ H D I h) fun f s1 q => ?_)
  cases f with
  | next => exact wpAny_execs_nil q
  | ret v => exact q
  | brk => exact q
  | cont => exact q
def tBreak : TS := fun D σ H => D.bk σ H
def tCont : TS := fun D σ H => D.ct σ H
theorem Inv.quiet {pins : List (Addr × Obj)} {σ : St} {H : Hp} {s : Shared} (I : Inv X pins σ H s) : interactive X.env = false := by simp [interactive, I.ok.kind]
def tDrop (te : TE) : TS := fun D σ H => te σ H fun _ H1 => D.nx σ H1
theorem vx (he : PE X e te) (hs : swapsWith e none pos.line X.env = pure false := by rfl) : PS X (.Expr e pos) (tDrop te) := by
  intro pins s σ H D I h;exact wpAny_Expr_any (thn (he pins s σ H _ I h) fun v s1 ⟨x, H1, I1, r1, q1⟩ => ⟨σ, H1, I1, q1⟩) I.quiet hs
def tRet (te : TE) : TS := fun D σ H => te σ H D.rt
theorem zl (he : PE X e te) : PS X (.Return (some e) pos) (tRet te) := by
  intro pins s σ H D I h;exact wpAny_Return_some (thn (he pins s σ H _ I h) fun v s1 ⟨x, H1, I1, r1, q1⟩ => ⟨x, σ, H1, I1, r1, q1⟩)
def tRetN : TS := fun D _ H => D.rt .non H
def tIfS (c : TT) (t u : TS) : TS := fun D σ H => c σ H fun b H1 => if b = true then t D σ H1 else u D σ H1
theorem y9 {c : Expr} {a b : List Stmt} {tc : TT} (hc : PT X c tc) (ha : PSs X a t) (hb : PSs X b u) : PS X (.If c a b pos) (tIfS tc t u) := by
  intro pins s σ H D I h;refine wpAny_If (thn (hc pins s σ H _ I h) fun d s1 ⟨H1, I1, q1⟩ => ?_)
  cases d with
  | true => exact ha pins s1 σ H1 D I1 q1
  | false => exact hb pins s1 σ H1 D I1 q1
end
abbrev TG := V -> St -> Hp -> (St -> Hp -> Prop) -> Prop
abbrev TGs := List V -> St -> Hp -> (St -> Hp -> Prop) -> Prop
def PG (X : Cx) (target : Expr) (t : TG) : Prop :=
  ∀ (pins : List (Addr × Obj)) (s : Shared) (σ : St) (H : Hp) (v : V) (u : Value) (Q : St -> Hp -> Prop), Inv X pins σ H s -> RelV v u -> t v σ H Q ->
    wpAny (model X.prog X.w) X.A (assign target X.env u) (fun _ s' => ∃ σ' H', Inv X pins σ' H' s' /\ Q σ' H') X.xe s
def PGs (X : Cx) (ts : List Expr) (t : TGs) : Prop :=
  ∀ (pins : List (Addr × Obj)) (s : Shared) (σ : St) (H : Hp) (vs : List V) (us : List Value) (Q : St -> Hp -> Prop), Inv X pins σ H s -> Vals vs us -> t vs σ H Q ->
    wpAny (model X.prog X.w) X.A (assignInOrder ((assignEach ts X.env).map (·.2)) us) (fun _ s' => ∃ σ' H', Inv X pins σ' H' s' /\ Q σ' H') X.xe s
abbrev TSet := V -> V -> V -> Hp -> (Hp -> Prop) -> Prop
abbrev TIp := V -> V -> Hp -> VK -> Prop
section
variable {X : Cx} {pos : Pos}
def zeb (i : Nat) : TG := fun v σ H Q => Q (σ.set i (some v)) H
theorem zm {i : Nat} {x : Str} (hN : X.N.Nodup) (hi : X.N[i]? = some x) (hx : Loc X.env.scope x) (hf : X.fn x = true \/ X.env.scope.names.lookup x = some .local := by first | exact .inl rfl | exact .inr rfl | assumption) : PG X (.Name x pos) (zeb i) := by
  intro pins s σ H v u Q I r h;exact wpAny_assign_Name (za3 I hN hi hx r (fun s' I' => ⟨_, H, I', h⟩) hf)
def gNil : TGs := fun vs σ H Q => vs = [] /\ Q σ H
def gCons (t : TG) (u : TGs) : TGs := fun vs σ H Q => ∃ v r, vs = v :: r /\ t v σ H fun σ' H' => u r σ' H' Q
theorem t6 : PGs X [] gNil := by
  intro pins s σ H vs us Q I r h;obtain ⟨e, h⟩ := h;subst e;cases r;exact assignInOrder_nil ⟨σ, H, I, h⟩
theorem yq {e : Expr} {es : List Expr} {t : TG} {u : TGs} (h1 : PG X e t) (h2 : PGs X es u)
    (hs : (assignEach (e :: es) X.env).map (·.2) = assign e X.env :: (assignEach es X.env).map (·.2) := by rfl) : PGs X (e :: es) (gCons t u) := by
  intro pins s σ H vs us Q I r h;obtain ⟨v, vr, e1, h⟩ := h;subst e1
  cases r with
  | cons r rr =>
    rw [hs];refine assignInOrder_cons (thn (h1 pins s σ H _ _ _ I r h) fun _ s1 ⟨σ1, H1, I1, q1⟩ => ?_);exact h2 pins s1 σ1 H1 _ _ Q I1 rr q1
def gTup (K : Fg) (n : Nat) (t : TGs) : TG := fun v σ H Q => ∃ a xs, v = .ref a /\ SqT K H a xs /\ xs.length = n /\ t xs σ H Q
theorem qu {es : List Expr} {k : Nat} {t : TGs} {n : Nat} (hc : X.calm = true) (h : PGs X es t)
    (hn : (assignEach es X.env).length = n := by rfl) (hst : (assignEach es X.env).findIdx? (·.1) = none := by rfl) : PG X (.Tuple es k pos) (gTup X.K n t) := by
  intro pins s σ H v u Q I r hw;obtain ⟨a, xs, e1, hq, hl, hw⟩ := hw;subst e1;cases r;obtain ⟨its, rv, ht, hz⟩ := I.tuple hq;refine assign_Tuple_tuple (I.ok.hd hc) ht (by simp [hn, <- hl, rv.length]) hst fun h' hx => ?_
  have I1 : Inv X pins σ H { s with heap := h' } := I.kept (t' := s.toks) fun b o e => hx b o (Zs (Heap.lt_size e)) e
  exact h pins _ σ H xs _ Q I1 (by simpa using rv) hw
def gSub (to ti : TE) (t : TSet) : TG := fun v σ H Q => to σ H fun o H1 => ti σ H1 fun i H2 => t o i v H2 fun H3 => Q σ H3
def tAsg (te : TE) (g : TG) : TS := fun D σ H => te σ H fun x H1 => g x σ H1 D.nx
theorem zz {i : Nat} {x : Str} {e : Expr} {te : TE} {pos' : Pos} (hN : X.N.Nodup) (hi : X.N[i]? = some x) (hx : Loc X.env.scope x) (he : PE X e te) (hs : swapsWith e (some (.Name x pos')) pos.line X.env = pure false := by rfl) (hf : X.fn x = true \/ X.env.scope.names.lookup x = some .local := by first | exact .inl rfl | exact .inr rfl | assumption) :
    PS X (.Assign [.Name x pos'] e pos) (tAsg te (zeb i)) := by
  intro pins s σ H D I h;refine wpAny_Assign_Name (thn (he pins s σ H _ I h) fun v s1 ⟨y, H1, I1, r1, q1⟩ => ?_) hs;exact za3 I1 hN hi hx r1 (fun s2 I2 => ⟨_, H1, I2, q1⟩) hf
def tAugS (to ti te : TE) (tget : V -> V -> Hp -> VK -> Prop) (tip : TIp) (tset : TSet) : TS := fun D σ H => to σ H fun o H1 => ti σ H1 fun i H2 => tget o i H2 fun x H3 => te σ H3 fun y H4 => tip x y H4 fun z H5 => tset o i z H5 fun H6 => D.nx σ H6
def ipI (f : Int -> Int -> Int) : TIp := fun x y H Q => ∃ i j, x = .int i /\ y = .int j /\ Q (.int (f i j)) H
end
section
variable {X : Cx} {pos : Pos}
def tWhile (c : TT) (tb : TS) : TS := fun D σ H => ∃ W : Nat -> St -> Hp -> Prop, (∃ m, W m σ H) /\ ∀ m σ H, W m σ H ->
  c σ H fun b H1 => if b = true then ∃ N : St -> Hp -> Prop, (∀ σ' H', N σ' H' -> ∃ m', m' < m /\ W m' σ' H') /\ tb { D with nx := N, ct := N, bk := D.nx } σ H1 else D.nx σ H1
end
structure It where
  go : Nat -> Hp -> Prop
  yld : Nat -> Hp -> V -> Hp -> Prop
  stop : Nat -> Hp -> Prop
def FpOk (X : Cx) (pins : List (Addr × Obj)) (H : Hp) (b : Addr) : Prop :=
  H b = none /\ b ≠ X.env.locals /\ b ∉ X.fs /\ (b ∈ X.ex \/ X.s₀.heap.objs.size <= b) /\ (∀ x c, X.env.cells.lookup x = some c -> c ≠ b) /\ ∀ p ∈ X.pn ++ pins, p.1 ≠ b
theorem Inv.fpOk {X : Cx} {pins : List (Addr × Obj)} {σ : St} {H H' : Hp} {s : Shared} {b : Addr} (I : Inv X pins σ H s) (hb : s.heap.objs.size <= b) (hn : H' b = none) : FpOk X pins H' b := by
  refine ⟨hn, ZR (Zh I.lt hb), I.nofs hb, .inr (Zd I.sz hb), fun x c e z => ?_, fun p hp z => ?_⟩
  . obtain ⟨v, q⟩ := I.cell x c e
    exact absurd (Zh q.lt (by rw [z]; exact hb)) (ZJ _)
  . exact absurd (Zh (Heap.lt_size (I.pin p hp).1) (by rw [z]; exact hb)) (ZJ _)
structure Turn (P : Program) (w : World) (K : Fg) (tg : Expr) (J : It) (fp : List Addr) (it : Addr) (tn : Nat -> Heap -> Prop) : Prop where
  mem : it ∈ fp
  obj : ∀ i h, tn i h -> ∀ b ∈ fp, ∃ o, h.get? b = some o /\ ∀ v, o.data ≠ .cell v
  keep : ∀ i h h', tn i h -> (∀ b ∈ fp, ∀ o, h.get? b = some o -> h'.get? b = some o) -> tn i h'
  item : ∀ (X : Cx), X.prog = P -> X.w = w -> X.K = K -> X.calm = true -> ∀ (i : Nat) (pins : List (Addr × Obj)) (s : Shared) (σ : St) (H : Hp) (E : Value -> Shared -> Prop), Inv X pins σ H s -> (∀ b ∈ fp, FpOk X pins H b) -> tn i s.heap -> J.go i H ->
    wpAny (model P w) X.A (pyNext (.ref it)) (fun r s1 => ∃ u, r = some u /\
      wpAny (model P w) X.A (letOwnedTupleGo tg (.ref it) u) (fun _ s2 => ∃ x H', Inv X pins σ H' s2 /\ RelV x u /\ J.yld i H x H' /\ tn (i + 1) s2.heap /\ ∀ b ∈ fp, H' b = none) E s1) E s
  done : ∀ (X : Cx), X.prog = P -> X.w = w -> X.K = K -> X.calm = true -> ∀ (i : Nat) (pins : List (Addr × Obj)) (s : Shared) (σ : St) (H : Hp) (E : Value -> Shared -> Prop), Inv X pins σ H s -> (∀ b ∈ fp, FpOk X pins H b) -> tn i s.heap -> J.stop i H ->
    wpAny (model P w) X.A (pyNext (.ref it)) (fun r s1 => r = none /\ Inv X pins σ H s1) E s
  self : ∀ (A : Around) (i : Nat) (s : Shared) (Q : Value -> Shared -> Prop) (E : Value -> Shared -> Prop), tn i s.heap -> Q (.ref it) s -> wpAny (model P w) A (pyIter (.ref it)) Q E s
abbrev TI := St -> Hp -> (It -> Hp -> Prop) -> Prop
def PIE (X : Cx) (pins : List (Addr × Obj)) (σ : St) (tg : Expr) (R : It -> Hp -> Prop) (itv : Value) (s2 : Shared) : Prop :=
  ∃ (it : Addr) (fp : List Addr) (tn : Nat -> Heap -> Prop) (J : It) (H' : Hp), itv = .ref it /\ Inv X pins σ H' s2 /\ Turn X.prog X.w X.K tg J fp it tn /\ tn 0 s2.heap /\ (∀ b ∈ fp, FpOk X pins H' b) /\ R J H'
def PI (X : Cx) (tg iter : Expr) (wi : TI) : Prop :=
  ∀ (pins : List (Addr × Obj)) (s : Shared) (σ : St) (H : Hp) (R : It -> Hp -> Prop), Inv X pins σ H s -> wi σ H R ->
    wpAny (model X.prog X.w) X.A (eval iter X.env) (fun v s1 => wpAny (model X.prog X.w) X.A (pyIter v) (PIE X pins σ tg R) X.xe s1) X.xe s
theorem de {M : Model} {A : Around} {E : Value -> Shared -> Prop} {s : Shared} {tg : Expr} {it : Addr} {u : Value} {o : Obj} {n : String} {vs : Array Value} {Q : Unit -> Shared -> Prop} (ho : s.heap.get? it = some o) (hc : o.cls = .type n) (hd : o.data = .fields vs)
    (hn : ["enumerate", "zip", "dict_itemiterator", "dict_reverseitemiterator", "odict_iterator", "itertools.zip_longest", "itertools.pairwise"].contains n = false) (hQ : Q () s) : wpAny M A (letOwnedTupleGo tg (.ref it) u) Q E s := by
  unfold letOwnedTupleGo
  cases tg <;> first
    | exact wpAny_pure hQ
    | (cases u <;> first
        | exact wpAny_pure hQ
        | (refine wpAny_bind (wpAny_load ho ?_)
           rw [hc, hd]
           show wpAny M A (if (["enumerate", "zip", "dict_itemiterator", "dict_reverseitemiterator", "odict_iterator", "itertools.zip_longest", "itertools.pairwise"].contains n && vs[0]? == some (rawInt _)) = true then _ else _) Q E s
           rw [if_neg (by intro h; rw [hn, Bool.false_and] at h; cases h)]
           exact wpAny_pure hQ))
def Itl (K : Fg) (a : Addr) : It :=
  ⟨fun i H => ∃ xs x, SqL K H a xs /\ xs[i]? = some x, fun i H x H' => H' = H /\ ∀ xs, SqL K H a xs -> xs[i]? = some x, fun i H => ∃ xs, SqL K H a xs /\ xs.length <= i⟩
def Itt (K : Fg) (a : Addr) : It :=
  ⟨fun i H => ∃ xs x, SqT K H a xs /\ xs[i]? = some x, fun i H x H' => H' = H /\ ∀ xs, SqT K H a xs -> xs[i]? = some x, fun i H => ∃ xs, SqT K H a xs /\ xs.length <= i⟩
def Itr (lo : Int) (n : Nat) : It := ⟨fun i _ => i < n, fun i H x H' => H' = H /\ x = .int (lo + i), fun i _ => n <= i⟩
theorem zfc {P : Program} {w : World} {K : Fg} {tg : Expr} (a it : Addr) : Turn P w K tg (Itl K a) [it] it (fun i h => h.IsListIter it a i) where
  mem := by simp
  obj := fun i h st b hb => by
    have e : b = it := by simpa using hb
    subst e;obtain ⟨o, e, c, d⟩ := st;exact ⟨o, e, fun v z => by rw [d] at z; cases z⟩
  keep := fun i h h' st k => st.at fun o e => k it (by simp) o e
  item := by
    intro X hP hw hK hc i pins s σ H E I hf st hg;subst hP hw hK;obtain ⟨xs, x, hq, hx⟩ := hg;obtain ⟨its, rv, p, hz⟩ := I.list hq;obtain ⟨u, hu, ru⟩ := rv.get hx;obtain ⟨f0, f1, f2, f3, f4, f5⟩ := hf it (by simp);refine wpAny_pyNext_list_item st p.isList (x := u) (by simpa using hu) fun h' st' sb => ?_
    have I1 : Inv X pins σ H { s with heap := h' } := I.turned (t' := s.toks) (fun b o hb e => (sb.2 b hb).trans e) f0 f1 f3 f4 f5;obtain ⟨o, e, c, d⟩ := id st';exact ⟨u, rfl, de (s := { s with heap := h' }) e c d (by decide) ⟨x, H, I1, ru, ⟨rfl, fun ys hy => by rw [I.list_inj hy hq]; exact hx⟩, st', fun b hb => (hf b hb).1⟩⟩
  done := by
    intro X hP hw hK hc i pins s σ H E I hf st hg;subst hP hw hK;obtain ⟨xs, hq, hx⟩ := hg;obtain ⟨its, rv, p, hz⟩ := I.list hq;obtain ⟨f0, f1, f2, f3, f4, f5⟩ := hf it (by simp);have hl := rv.length;exact wpAny_pyNext_list_end (I.ok.hd hc) st p.isList (by simp; omega) fun h' eb => ⟨rfl, I.turned (t' := s.toks) (fun b o hb e => eb b o hb e) f0 f1 f3 f4 f5⟩
  self := fun _ _ _ _ _ st h => wpAny_pyIter_listiter st h
theorem zdz {P : Program} {w : World} {K : Fg} {tg : Expr} (a it : Addr) : Turn P w K tg (Itt K a) [it] it (fun i h => h.IsTupleIter it a i) where
  mem := by simp
  obj := fun i h st b hb => by
    have e : b = it := by simpa using hb
    subst e;obtain ⟨o, e, c, d⟩ := st;exact ⟨o, e, fun v z => by rw [d] at z; cases z⟩
  keep := fun i h h' st k => st.at fun o e => k it (by simp) o e
  item := by
    intro X hP hw hK hc i pins s σ H E I hf st hg;subst hP hw hK;obtain ⟨xs, x, hq, hx⟩ := hg;obtain ⟨its, rv, p, hz⟩ := I.tuple hq;obtain ⟨u, hu, ru⟩ := rv.get hx;obtain ⟨f0, f1, f2, f3, f4, f5⟩ := hf it (by simp);refine wpAny_pyNext_tuple_item st (show s.heap.IsTuple a its.toArray from p) (x := u) (by simpa using hu) fun h' st' sb => ?_
    have I1 : Inv X pins σ H { s with heap := h' } := I.turned (t' := s.toks) (fun b o hb e => (sb.2 b hb).trans e) f0 f1 f3 f4 f5;obtain ⟨o, e, c, d⟩ := id st';exact ⟨u, rfl, de (s := { s with heap := h' }) e c d (by decide) ⟨x, H, I1, ru, ⟨rfl, fun ys hy => by rw [I.tuple_inj hy hq]; exact hx⟩, st', fun b hb => (hf b hb).1⟩⟩
  done := by
    intro X hP hw hK hc i pins s σ H E I hf st hg;subst hP hw hK;obtain ⟨xs, hq, hx⟩ := hg;obtain ⟨its, rv, p, hz⟩ := I.tuple hq;obtain ⟨f0, f1, f2, f3, f4, f5⟩ := hf it (by simp);have hl := rv.length;exact wpAny_pyNext_tuple_end (I.ok.hd hc) st (show s.heap.IsTuple a its.toArray from p) (by simp; omega) fun h' eb => ⟨rfl, I.turned (t' := s.toks) (fun b o hb e => eb b o hb e) f0 f1 f3 f4 f5⟩
  self := fun _ _ _ _ _ st h => wpAny_pyIter_tupleiter st h
theorem zej {P : Program} {w : World} {K : Fg} {tg : Expr} (it : Addr) (lo : Int) (n : Nat) : Turn P w K tg (Itr lo n) [it] it (fun i h => IsRangeIter h it (lo + (i : Nat) * 1) ((n : Int) - (i : Nat)) 1) where
  mem := by simp
  obj := fun i h st b hb => by
    have e : b = it := by simpa using hb
    subst e
    exact ⟨_, st, fun v z => by
      have z' : Data.fields _ = Data.cell v := z
      cases z'⟩
  keep := fun i h h' st k => k it (by simp) _ st
  item := by
    intro X hP hw hK hc i pins s σ H E I hf st hg;subst hP hw hK;obtain ⟨f0, f1, f2, f3, f4, f5⟩ := hf it (by simp);have W := Walks.range (prog := X.prog) (w := X.w) (I.ok.hd hc) it lo 1 n;refine W.item i s _ _ hg st fun v h' tk hv st' kk => ?_
    obtain ⟨t, rfl⟩ := hv;have I1 : Inv X pins σ H { s with heap := h', toks := tk } := I.turned (fun b o hb e => kk b o (by simpa using hb) e) f0 f1 f3 f4 f5;refine ⟨_, rfl, de (s := { s with heap := h', toks := tk }) (n := "range_iterator") st' rfl rfl (by decide) ⟨.int (lo + i), H, I1, ⟨t, ?_⟩, ⟨rfl, rfl⟩, st', fun b hb => (hf b hb).1⟩⟩;rw [Int.mul_one]
  done := by
    intro X hP hw hK hc i pins s σ H E I hf st hg;subst hP hw hK;obtain ⟨f0, f1, f2, f3, f4, f5⟩ := hf it (by simp);exact wpAny_pyNext_range_end (I.ok.hd hc) st (by have : n <= i := hg; omega) fun h' eb => ⟨rfl, I.turned (t' := s.toks) (fun b o hb e => eb b o hb e) f0 f1 f3 f4 f5⟩
  self := fun _ _ _ _ _ st h => wpAny_pyIter_rangeiter st h
end L2
namespace L2
open PySem PySem.Spec PyProof.Rows
section
variable {X : Cx} {tg : Expr}
def iList (K : Fg) (tl : TE) : TI := fun σ H R => tl σ H fun x H1 => ∃ a, x = .ref a /\ (∃ xs, SqL K H1 a xs) /\ R (Itl K a) H1
def iTup (K : Fg) (tl : TE) : TI := fun σ H R => tl σ H fun x H1 => ∃ a, x = .ref a /\ (∃ xs, SqT K H1 a xs) /\ R (Itt K a) H1
theorem z8 {l : Expr} {tl : TE} (hl : PE X l tl) : PI X tg l (iList X.K tl) := by
  intro pins s σ H R I h;refine thn (hl pins s σ H _ I h) fun v s1 ⟨x, H1, I1, r1, q1⟩ => ?_
  obtain ⟨a, e, ⟨xs, hq⟩, q⟩ := q1;subst e;cases r1;obtain ⟨its, rv, p, hz⟩ := I1.list hq;refine wpAny_pyIter_list p.isList ?_;refine ⟨s1.heap.objs.size, [s1.heap.objs.size], _, _, H1, rfl, I1.kept (t' := s1.toks) fun b o e => Heap.get?_push_of_some _ e, zfc a _, ⟨_, Heap.get?_push_size _ rfl, rfl, rfl⟩, fun b hb => ?_, q⟩;have e : b = s1.heap.objs.size := by simpa using hb
  subst e;exact I1.fpOk (Zm _) (I1.hok.fresh (Zm _))
theorem j5 {l : Expr} {tl : TE} (hl : PE X l tl) : PI X tg l (iTup X.K tl) := by
  intro pins s σ H R I h;refine thn (hl pins s σ H _ I h) fun v s1 ⟨x, H1, I1, r1, q1⟩ => ?_
  obtain ⟨a, e, ⟨xs, hq⟩, q⟩ := q1;subst e;cases r1;obtain ⟨its, rv, p, hz⟩ := I1.tuple hq;refine wpAny_pyIter_tuple (show s1.heap.IsTuple a its.toArray from p) ?_;refine ⟨s1.heap.objs.size, [s1.heap.objs.size], _, _, H1, rfl, I1.kept (t' := s1.toks) fun b o e => Heap.get?_push_of_some _ e, zdz a _, ⟨_, Heap.get?_push_size _ rfl, rfl, rfl⟩, fun b hb => ?_, q⟩;have e : b = s1.heap.objs.size := by simpa using hb
  subst e;exact I1.fpOk (Zm _) (I1.hok.fresh (Zm _))
theorem av {pins : List (Addr × Obj)} {σ : St} {H : Hp} {s : Shared} {R : It -> Hp -> Prop} {E : Value -> Shared -> Prop} {lo hi : Int} {t u v : Tok} {tk : Nat} (I : Inv X pins σ H s) (h1 : -(2 ^ 62) <= lo) (h2 : lo < 2 ^ 62) (h3 : -(2 ^ 62) <= hi) (h4 : hi < 2 ^ 62)
    (q : R (Itr lo (hi - lo).toNat) H) : wpAny (model X.prog X.w) X.A (pyIter (.ref s.heap.objs.size)) (PIE X pins σ tg R) E { s with heap := s.heap.push { cls := .type "range", data := .fields #[.int lo t, .int hi u, .int 1 v] }, toks := tk } := by
  refine wpAny_pyIter_range (IsRange.new ..) (small_one h1 h2 h3 h4) ?_;have I1 : Inv X pins σ H { s with heap := s.heap.push { cls := .type "range", data := .fields #[.int lo t, .int hi u, .int 1 v] }, toks := tk } := I.kept fun b o e => Heap.get?_push_of_some _ e
  refine ⟨(s.heap.push { cls := .type "range", data := .fields #[.int lo t, .int hi u, .int 1 v] }).objs.size, [(s.heap.push { cls := .type "range", data := .fields #[.int lo t, .int hi u, .int 1 v] }).objs.size], _, _, H, rfl,
    I1.kept (t' := tk) fun b o e => Heap.get?_push_of_some _ e, zej _ lo (hi - lo).toNat, ?_, fun b hb => ?_, q⟩
  . have e1 : lo + ((0 : Nat) : Int) * 1 = lo := by simp
    have e2 : (((hi - lo).toNat : Nat) : Int) - ((0 : Nat) : Int) = Builtin.Range.rangeSize lo hi 1 := by rw [rangeSize_one]; split <;> omega
    show IsRangeIter _ _ (lo + ((0 : Nat) : Int) * 1) ((((hi - lo).toNat : Nat) : Int) - ((0 : Nat) : Int)) 1
    rw [e1, e2];exact Heap.get?_push_size _ rfl
  . have e : b = (s.heap.push { cls := .type "range", data := .fields #[.int lo t, .int hi u, .int 1 v] }).objs.size := by simpa using hb
    subst e;exact I1.fpOk (Zm _) (I1.hok.fresh (Zm _))
def iRng1 (ta : TA) : TI := fun σ H R => ta σ H fun vs H1 => ∃ j : Int, vs = [.int j] /\ -(2 ^ 62) <= j /\ j < 2 ^ 62 /\ R (Itr 0 j.toNat) H1
def iRng2 (ta : TA) : TI := fun σ H R => ta σ H fun vs H1 => ∃ i j : Int, vs = [.int i, .int j] /\ (-(2 ^ 62) <= i /\ i < 2 ^ 62 /\ -(2 ^ 62) <= j /\ j < 2 ^ 62) /\ R (Itr i (j - i).toNat) H1
theorem yk {a : Expr} {ta : TA} {p pos : Pos} (hg : Gl X "range") (hm : X.mg "range" = none) (ha : PA X [a] ta) (hs : starEach [a] X.env = [(false, eval a X.env)] := by rfl) : PI X tg (.Call (.Name "range" p) [a] [] pos) (iRng1 ta) := by
  intro pins s σ H R I h;refine Call_ (ui I hg hm boot_range (PyProof.Rows.callWith_type1 (thn (ha pos pins s σ H _ I h) fun us s1 ⟨vs, H1, I1, r1, q1⟩ => ?_) hs rfl));obtain ⟨j, e, q1, q2, q⟩ := q1;subst e
  cases r1 with
  | cons r rr =>
    cases rr;obtain ⟨t, rfl⟩ := r;exact call_range_1 (av I1 (by omega) (by omega) q1 q2 (by simpa using q))
theorem js {a b : Expr} {ta : TA} {p pos : Pos} (hg : Gl X "range") (hm : X.mg "range" = none) (ha : PA X [a, b] ta) (hs : starEach [a, b] X.env = [(false, eval a X.env), (false, eval b X.env)] := by rfl) (hs2 : starEach [b] X.env = [(false, eval b X.env)] := by rfl) :
    PI X tg (.Call (.Name "range" p) [a, b] [] pos) (iRng2 ta) := by
  intro pins s σ H R I h;refine Call_ (ui I hg hm boot_range (PyProof.Rows.callWith_type1 (thn (ha pos pins s σ H _ I h) fun us s1 ⟨vs, H1, I1, r1, q1⟩ => ?_) (by rw [hs, hs2]) (by rw [hs2]; rfl)));obtain ⟨i, j, e, ⟨q1, q2, q3, q4⟩, q⟩ := q1;subst e
  cases r1 with
  | cons r rr =>
    cases rr with
    | cons r' rr =>
      cases rr;obtain ⟨t, rfl⟩ := r;obtain ⟨t', rfl⟩ := r';exact call_range_2 (av I1 q1 q2 q3 q4 q)
def tFor (wi : TI) (g : TG) (tb : TS) : TS := fun D σ H => wi σ H fun J H1 => ∃ W : Nat -> Nat -> St -> Hp -> Prop, (∃ m, W 0 m σ H1) /\ ∀ i m σ H, W i m σ H ->
  (J.stop i H /\ D.nx σ H) \/ (J.go i H /\ ∃ N : St -> Hp -> Prop, (∀ σ' H', N σ' H' -> ∃ m', m' < m /\ W (i + 1) m' σ' H') /\ ∀ x H', J.yld i H x H' -> g x σ H' fun σ2 H2 => tb { D with nx := N, ct := N, bk := D.nx } σ2 H2)
def ll (fp : List Addr) (h : Heap) : List (Addr × Obj) := fp.filterMap fun b => (h.get? b).map fun o => (b, o)
theorem vj {fp : List Addr} {h : Heap} {b : Addr} {o : Obj} (hb : b ∈ fp) (e : h.get? b = some o) : (b, o) ∈ ll fp h := ZX.mpr ⟨b, hb, by rw [e]; rfl⟩
theorem zfx {fp : List Addr} {h : Heap} {p : Addr × Obj} (hp : p ∈ ll fp h) : p.1 ∈ fp /\ h.get? p.1 = some p.2 := by
  obtain ⟨b, hb, e⟩ := ZX.mp hp
  cases q : h.get? b with
  | none => rw [q] at e; cases e
  | some o =>
    rw [q] at e;have e' : (b, o) = p := Option.some.inj e;subst e';exact ⟨hb, q⟩
theorem Inv.pinned {pins : List (Addr × Obj)} {σ : St} {H : Hp} {s : Shared} {fp : List Addr} (I : Inv X pins σ H s) (hf : ∀ b ∈ fp, FpOk X pins H b) (ho : ∀ b ∈ fp, ∃ o, s.heap.get? b = some o /\ ∀ v, o.data ≠ .cell v) : Inv X (pins ++ ll fp s.heap) σ H s :=
  I.pins_of fun p hp => (ZH.mp hp).elim (fun z => I.pin p (Zu _ z)) fun z => by
    obtain ⟨hb, e⟩ := zfx z;obtain ⟨f0, f1, f2, _⟩ := hf p.1 hb;obtain ⟨o, e', d⟩ := ho p.1 hb;rw [e] at e'; cases e';exact ⟨e, f0, f1, f2, d⟩
theorem Inv.unpinned {pins pl : List (Addr × Obj)} {σ : St} {H : Hp} {s : Shared} (I : Inv X (pins ++ pl) σ H s) : Inv X pins σ H s := I.pins_of fun p hp => I.pin p (Zu _ (ZV _ hp))
theorem yx {iter : Expr} {body : List Stmt} {wi : TI} {g : TG} {tb : TS} {pos : Pos} (hp : PassesOwn (model X.prog X.w) X.A X.env X.xe) (hc : X.calm = true) (hi : PI X tg iter wi) (hg : PG X tg g) (hb : PSs X body tb)
    (hs : ∀ x, foldedSetIterable iter X.env x = pure x := by intro _; rfl) : PS X (.For tg iter body [] pos) (tFor wi g tb) := by
  intro pins s σ H D I h;refine wpAny_For (thn (hi pins s σ H _ I h) fun v s1 h1 => thn h1 fun itv s2 h2 => ?_) hs;obtain ⟨it, fp, tn, J, H2, e, I2, T, st2, f2, W, ⟨m0, w0⟩, turn⟩ := h2;subst e
  -- what stays true of the iterator's objects through the loop
  have stat : ∀ {H' : Hp}, (∀ b ∈ fp, H' b = none) -> ∀ b ∈ fp, FpOk X pins H' b := fun hn b hb => ⟨hn b hb, (f2 b hb).2⟩
  refine codeAny_forLoop_any (fun n s' => ∃ i σ' H', Inv X pins σ' H' s' /\ tn i s'.heap /\ (∀ b ∈ fp, H' b = none) /\ W i n σ' H') ?_ m0 ⟨0, σ, H2, I2, st2, fun b hb => (f2 b hb).1, w0⟩
  rintro n s3 ⟨i, σ3, H3, I3, st3, fr3, w3⟩
  rcases turn i n σ3 H3 w3 with ⟨stop, qn⟩ | ⟨go, N, hN, step⟩
  . refine wpAny_passesOwn hp (thn (T.done X rfl rfl rfl hc i pins s3 σ3 H3 X.xe I3 (stat fr3) st3 stop) fun r s4 ⟨hr, I4⟩ => ?_)
    subst hr;exact wpAny_execs_nil ⟨σ3, H3, I4, qn⟩
  . refine wpAny_passesOwn hp (thn (T.item X rfl rfl rfl hc i pins s3 σ3 H3 X.xe I3 (stat fr3) st3 go) fun r s4 ⟨u, hr, h4⟩ => ?_)
    subst hr;refine wpAny_passesOwn hp (thn h4 fun _ s5 ⟨x, H5, I5, r5, y5, st5, fr5⟩ => ?_);have I5' := I5.pinned (stat fr5) (T.obj _ _ st5);refine wpAny_passesOwn hp (thn (hg _ s5 σ3 H5 x u _ I5' r5 (step x H5 y5)) fun _ s6 ⟨σ6, H6, I6, q6⟩ => ?_);refine wpAny_passesOwn hp (thn (hb _ s6 σ6 H6 _ I6 q6) fun f s7 q7 => ?_)
    have again : ∀ {σ7 : St} {H7 : Hp}, Inv X (pins ++ ll fp s5.heap) σ7 H7 s7 -> N σ7 H7 -> ∃ m, m < n /\ ∃ i σ' H', Inv X pins σ' H' s7 /\ tn i s7.heap /\ (∀ b ∈ fp, H' b = none) /\ W i m σ' H' := fun {σ7 H7} I7 n7 => by
      obtain ⟨m', hm, w7⟩ := hN σ7 H7 n7;refine ⟨m', hm, i + 1, σ7, H7, I7.unpinned, T.keep _ _ _ st5 fun b hb o e => (I7.pin (b, o) (Zu _ (Zu _ (vj hb e)))).1, fun b hb => ?_, w7⟩;obtain ⟨o, e, d⟩ := T.obj _ _ st5 b hb;exact (I7.pin (b, o) (Zu _ (Zu _ (vj hb e)))).2.1
    cases f with
    | next => obtain ⟨σ7, H7, I7, n7⟩ := q7; exact again I7 n7
    | cont => obtain ⟨σ7, H7, I7, n7⟩ := q7; exact again I7 n7
    | brk => obtain ⟨σ7, H7, I7, q7⟩ := q7; exact ⟨σ7, H7, I7.unpinned, q7⟩
    | ret v => obtain ⟨x7, σ7, H7, I7, r7, q7⟩ := q7; exact ⟨x7, σ7, H7, I7.unpinned, r7, q7⟩
end
theorem vh {K : Fg} {a : Addr} {xs : List V} {g : TG} {tb : TS} {D : Ends} {σ : St} {H : Hp} (Pv : Nat -> St -> Hp -> Prop) (h0 : Pv 0 σ H) (hl : ∀ i σ H, i <= xs.length -> Pv i σ H -> SqL K H a xs)
    (hs : ∀ i x σ H, xs[i]? = some x -> Pv i σ H -> g x σ H fun σ2 H2 => tb { D with nx := Pv (i + 1), ct := Pv (i + 1), bk := D.nx } σ2 H2) (hd : ∀ σ H, Pv xs.length σ H -> D.nx σ H) :
    ∃ W : Nat -> Nat -> St -> Hp -> Prop, (∃ m, W 0 m σ H) /\ ∀ i m σ H, W i m σ H ->
      ((Itl K a).stop i H /\ D.nx σ H) \/ ((Itl K a).go i H /\ ∃ N : St -> Hp -> Prop, (∀ σ' H', N σ' H' -> ∃ m', m' < m /\ W (i + 1) m' σ' H') /\ ∀ x H', (Itl K a).yld i H x H' -> g x σ H' fun σ2 H2 => tb { D with nx := N, ct := N, bk := D.nx } σ2 H2) := by
  refine ⟨fun i m σ H => m = xs.length - i /\ i <= xs.length /\ Pv i σ H, ⟨xs.length, by simp, ZE _, h0⟩, ?_⟩
  rintro i m σ H ⟨rfl, hi, p⟩
  have q := hl i σ H hi p
  by_cases hlt : i < xs.length
  . refine .inr ⟨⟨xs, xs[i], q, by simp [hlt]⟩, Pv (i + 1), fun σ' H' p' => ⟨xs.length - (i + 1), by omega, rfl, hlt, p'⟩, fun x H' y => ?_⟩
    obtain ⟨e, y⟩ := y;subst e;exact hs i x σ _ (y xs q) p
  . have e : i = xs.length := by omega
    subst e;exact .inl ⟨⟨xs, q, Zm _⟩, hd σ H p⟩
theorem zh3 {K : Fg} {a : Addr} {xs : List V} {g : TG} {tb : TS} {D : Ends} {σ : St} {H : Hp} (Pv : Nat -> St -> Hp -> Prop) (h0 : Pv 0 σ H) (hl : ∀ i σ H, i <= xs.length -> Pv i σ H -> SqT K H a xs)
    (hs : ∀ i x σ H, xs[i]? = some x -> Pv i σ H -> g x σ H fun σ2 H2 => tb { D with nx := Pv (i + 1), ct := Pv (i + 1), bk := D.nx } σ2 H2) (hd : ∀ σ H, Pv xs.length σ H -> D.nx σ H) :
    ∃ W : Nat -> Nat -> St -> Hp -> Prop, (∃ m, W 0 m σ H) /\ ∀ i m σ H, W i m σ H ->
      ((Itt K a).stop i H /\ D.nx σ H) \/ ((Itt K a).go i H /\ ∃ N : St -> Hp -> Prop, (∀ σ' H', N σ' H' -> ∃ m', m' < m /\ W (i + 1) m' σ' H') /\ ∀ x H', (Itt K a).yld i H x H' -> g x σ H' fun σ2 H2 => tb { D with nx := N, ct := N, bk := D.nx } σ2 H2) := by
  refine ⟨fun i m σ H => m = xs.length - i /\ i <= xs.length /\ Pv i σ H, ⟨xs.length, by simp, ZE _, h0⟩, ?_⟩
  rintro i m σ H ⟨rfl, hi, p⟩
  have q := hl i σ H hi p
  by_cases hlt : i < xs.length
  . refine .inr ⟨⟨xs, xs[i], q, by simp [hlt]⟩, Pv (i + 1), fun σ' H' p' => ⟨xs.length - (i + 1), by omega, rfl, hlt, p'⟩, fun x H' y => ?_⟩
    obtain ⟨e, y⟩ := y;subst e;exact hs i x σ _ (y xs q) p
  . have e : i = xs.length := by omega
    subst e;exact .inl ⟨⟨xs, q, Zm _⟩, hd σ H p⟩
theorem xr {lo : Int} {n : Nat} {g : TG} {tb : TS} {D : Ends} {σ : St} {H : Hp} (Pv : Nat -> St -> Hp -> Prop) (h0 : Pv 0 σ H)
    (hs : ∀ i σ H, i < n -> Pv i σ H -> g (.int (lo + i)) σ H fun σ2 H2 => tb { D with nx := Pv (i + 1), ct := Pv (i + 1), bk := D.nx } σ2 H2) (hd : ∀ σ H, Pv n σ H -> D.nx σ H) :
    ∃ W : Nat -> Nat -> St -> Hp -> Prop, (∃ m, W 0 m σ H) /\ ∀ i m σ H, W i m σ H ->
      ((Itr lo n).stop i H /\ D.nx σ H) \/ ((Itr lo n).go i H /\ ∃ N : St -> Hp -> Prop, (∀ σ' H', N σ' H' -> ∃ m', m' < m /\ W (i + 1) m' σ' H') /\ ∀ x H', (Itr lo n).yld i H x H' -> g x σ H' fun σ2 H2 => tb { D with nx := N, ct := N, bk := D.nx } σ2 H2) := by
  refine ⟨fun i m σ H => m = n - i /\ i <= n /\ Pv i σ H, ⟨n, by simp, ZE _, h0⟩, ?_⟩
  rintro i m σ H ⟨rfl, hi, p⟩
  by_cases hlt : i < n
  . refine .inr ⟨hlt, Pv (i + 1), fun σ' H' p' => ⟨n - (i + 1), by omega, rfl, hlt, p'⟩, fun x H' y => ?_⟩
    obtain ⟨e, y⟩ := y;subst e y;exact hs i σ _ hlt p
  . have e : i = n := by omega
    subst e;exact .inl ⟨Zm _, hd σ H p⟩
end L2
namespace L2
open PySem PySem.Spec PyProof.Rows
abbrev R2 := V -> V -> Hp -> VK -> Prop
def OpR (X : Cx) (f : Value -> Value -> Sem Value) (r : R2) : Prop :=
  ∀ (pins : List (Addr × Obj)) (s : Shared) (σ : St) (H : Hp) (x y : V) (v u : Value) (Q : VK), Inv X pins σ H s -> RelV x v -> RelV y u -> r x y H Q ->
    wpAny (model X.prog X.w) X.A (f v u) (EP X pins σ Q) X.xe s
def UnR (X : Cx) (f : Value -> Sem Value) (r : V -> Hp -> VK -> Prop) : Prop :=
  ∀ (pins : List (Addr × Obj)) (s : Shared) (σ : St) (H : Hp) (x : V) (v : Value) (Q : VK), Inv X pins σ H s -> RelV x v -> r x H Q ->
    wpAny (model X.prog X.w) X.A (f v) (EP X pins σ Q) X.xe s
def ux (X : Cx) (f : Value) (r : List V -> Hp -> VK -> Prop) : Prop :=
  ∀ (pins : List (Addr × Obj)) (s : Shared) (σ : St) (H : Hp) (xs : List V) (us : List Value) (Q : VK), Inv X pins σ H s -> Vals xs us -> r xs H Q ->
    wpAny (model X.prog X.w) X.A (call f us) (EP X pins σ Q) X.xe s
def tOp (r : R2) (ta tb : TE) : TE := fun σ H Q => ta σ H fun x H1 => tb σ H1 fun y H2 => r x y H2 Q
def tUn (r : V -> Hp -> VK -> Prop) (ta : TE) : TE := fun σ H Q => ta σ H fun x H1 => r x H1 Q
def rI (C : Int -> Int -> Prop) (g : Int -> Int -> V) : R2 := fun x y H Q => ∃ i j, x = .int i /\ y = .int j /\ C i j /\ Q (g i j) H
def rI0 (g : Int -> Int -> V) : R2 := fun x y H Q => ∃ i j, x = .int i /\ y = .int j /\ Q (g i j) H
def rU (g : Int -> V) : V -> Hp -> VK -> Prop := fun x H Q => ∃ i, x = .int i /\ Q (g i) H
section
variable {X : Cx} {a b c : Expr} {ta tb tc : TE} {pos : Pos}
theorem binT (ha : PE X a ta) (hb : PE X b tb) {pins : List (Addr × Obj)} {s : Shared} {σ : St} {H : Hp} {R : V -> V -> Hp -> Prop} (I : Inv X pins σ H s)
    (h : ta σ H fun x H1 => tb σ H1 fun y H2 => R x y H2) {Q : Value -> Shared -> Prop} {f : Value -> Value -> Sem Value}
    (hf : ∀ v u s2 x y H2, Inv X pins σ H2 s2 -> RelV x v -> RelV y u -> R x y H2 -> wpAny (model X.prog X.w) X.A (f v u) Q X.xe s2) :
    wpAny (model X.prog X.w) X.A (eval a X.env) (fun v s₁ => wpAny (model X.prog X.w) X.A (eval b X.env) (fun u s₂ => wpAny (model X.prog X.w) X.A (f v u) Q X.xe s₂) X.xe s₁) X.xe s := by
  refine thn (ha pins s σ H _ I h) fun v s1 ⟨x, H1, I1, r1, q1⟩ => ?_
  refine thn (hb pins s1 σ H1 _ I1 q1) fun u s2 ⟨y, H2, I2, r2, q2⟩ => ?_
  exact hf v u s2 x y H2 I2 r1 r2 q2
theorem zp {op : Operator} {r : R2} (ho : OpR X (binaryOp op) r) (ha : PE X a ta) (hb : PE X b tb) : PE X (.BinOp a op b pos) (tOp r ta tb) := by
  intro pins s σ H Q I h;exact wpAny_BinOp (binT ha hb I h fun v u s2 x y H2 I2 rx ry q => ho pins s2 σ H2 x y v u Q I2 rx ry q)
theorem zdy {op : UnaryOp} {r : V -> Hp -> VK -> Prop} (ho : UnR X (unaryOp op) r) (ha : PE X a ta) : PE X (.UnaryOp op a pos) (tUn r ta) := by
  intro pins s σ H Q I h;exact UnaryOp_ (thn (ha pins s σ H _ I h) fun v s1 ⟨x, H1, I1, r1, q1⟩ => ho pins s1 σ H1 x v Q I1 r1 q1)
theorem opI {f : Value -> Value -> Sem Value} {C : Int -> Int -> Prop} {g : Int -> Int -> Int}
    (rule : ∀ (i j : Int) (t u : Tok) (s : Shared) (Q : Value -> Shared -> Prop) (E : Value -> Shared -> Prop), C i j -> Q (.int (g i j) s.toks) { s with toks := s.toks + 1 } -> wpAny (model X.prog X.w) X.A (f (.int i t) (.int j u)) Q E s) :
    OpR X f (rI C fun i j => .int (g i j)) := by
  intro pins s σ H x y v u Q I rx ry h;obtain ⟨i, j, rfl, rfl, hc, q⟩ := h;obtain ⟨t, rfl⟩ := rx;obtain ⟨t', rfl⟩ := ry;exact rule i j t t' s _ _ hc ⟨.int (g i j), H, I.tok _, ⟨_, rfl⟩, q⟩
theorem opI0 {f : Value -> Value -> Sem Value} {g : Int -> Int -> Int}
    (rule : ∀ (i j : Int) (t u : Tok) (s : Shared) (Q : Value -> Shared -> Prop) (E : Value -> Shared -> Prop), Q (.int (g i j) s.toks) { s with toks := s.toks + 1 } -> wpAny (model X.prog X.w) X.A (f (.int i t) (.int j u)) Q E s) :
    OpR X f (rI0 fun i j => .int (g i j)) := by
  intro pins s σ H x y v u Q I rx ry h;obtain ⟨i, j, rfl, rfl, q⟩ := h;obtain ⟨t, rfl⟩ := rx;obtain ⟨t', rfl⟩ := ry;exact rule i j t t' s _ _ ⟨.int (g i j), H, I.tok _, ⟨_, rfl⟩, q⟩
theorem opB0 {f : Value -> Value -> Sem Value} {g : Int -> Int -> Bool}
    (rule : ∀ (i j : Int) (t u : Tok) (s : Shared) (Q : Value -> Shared -> Prop) (E : Value -> Shared -> Prop), Q (.bool (g i j)) s -> wpAny (model X.prog X.w) X.A (f (.int i t) (.int j u)) Q E s) :
    OpR X f (rI0 fun i j => .bl (g i j)) := by
  intro pins s σ H x y v u Q I rx ry h;obtain ⟨i, j, rfl, rfl, q⟩ := h;obtain ⟨t, rfl⟩ := rx;obtain ⟨t', rfl⟩ := ry;exact rule i j t t' s _ _ ⟨.bl (g i j), H, I, rfl, q⟩
def CDiv (i j : Int) : Prop := 0 < j /\ j < 1073741824
def CPow (i j : Int) : Prop := 0 <= j /\ j <= 1000000 /\ i.natAbs < 2 ^ 64
def CMul (i j : Int) : Prop := (-(2 ^ 64) < i /\ i < 2 ^ 64) \/ (-(2 ^ 64) < j /\ j < 2 ^ 64)
theorem CMul.ok {i j : Int} (h : CMul i j) : IntMulOk i j := by
  rcases h with ⟨h1, h2⟩ | ⟨h1, h2⟩
  . exact .of_left (intBits_le_64 h1 h2)
  . exact .of_right (intBits_le_64 h1 h2)
theorem y8 : OpR X (binaryOp .Add) (rI0 fun i j => .int (i + j)) := opI0 fun _ _ _ _ _ _ _ q => add_int q
theorem sv : OpR X (binaryOp .Sub) (rI0 fun i j => .int (i - j)) := opI0 fun _ _ _ _ _ _ _ q => sub_int q
theorem jp : OpR X (binaryOp .Mult) (rI CMul fun i j => .int (i * j)) := opI fun _ _ _ _ _ _ _ hc q => mul_int q hc.ok
theorem wx : OpR X (binaryOp .FloorDiv) (rI CDiv fun i j => .int (i / j)) := opI fun i j _ _ _ _ _ hc q => by
  have h1 : (0 : Int) < j := hc.1;have h2 : j < 1073741824 := hc.2;exact floordiv_int (by omega) (by rw [Int.fdiv_eq_ediv_of_nonneg i (by omega)]; exact q) (.inl (PyProof.noPylong_small (by omega)))
theorem x6 : OpR X (binaryOp .Mod) (rI (fun _ j => 0 < j) fun i j => .int (i % j)) := opI fun i j _ _ _ _ _ hc q => by
  have h1 : (0 : Int) < j := hc;exact mod_int' (by omega) (by rw [Int.fmod_eq_emod_of_nonneg i (by omega)]; exact q)
theorem l5 : OpR X (binaryOp .Pow) (rI CPow fun i j => .int (i ^ j.toNat)) := opI fun _ _ _ _ _ _ _ hc q => pow_int_small hc.1 hc.2.1 hc.2.2 q
theorem unI {f : Value -> Sem Value} {g : Int -> Int}
    (rule : ∀ (i : Int) (t : Tok) (s : Shared) (Q : Value -> Shared -> Prop) (E : Value -> Shared -> Prop), Q (.int (g i) s.toks) { s with toks := s.toks + 1 } -> wpAny (model X.prog X.w) X.A (f (.int i t)) Q E s) :
    UnR X f (rU fun i => .int (g i)) := by
  intro pins s σ H x v Q I rx h;obtain ⟨i, rfl, q⟩ := h;obtain ⟨t, rfl⟩ := rx;exact rule i t s _ _ ⟨.int (g i), H, I.tok _, ⟨_, rfl⟩, q⟩
theorem za9 : UnR X (unaryOp .USub) (rU fun i => .int (-i)) := unI fun _ _ _ _ _ q => neg_int q
end
def scal : V -> V -> Bool
  | .non, .non => true | .non, .int _ => true | .int _, .non => true | .non, .bl _ => true | .bl _, .non => true | .non, .str _ => true | .str _, .non => true
  | .int _, .int _ => true | .bl _, .bl _ => true | .str _, .str _ => true | .byt _, .byt _ => true
  | .int _, .str _ => true | .str _, .int _ => true | .bl _, .str _ => true | .str _, .bl _ => true
  | _, _ => false
def rEq : R2 := fun x y H Q => scal x y = true /\ Q (.bl (decide (x = y))) H
def rNe : R2 := fun x y H Q => scal x y = true /\ Q (.bl (!decide (x = y))) H
theorem zdm {i j : Int} : decide (V.int i = V.int j) = (i == j) := by
  rw [Bool.eq_iff_iff];simp
theorem zf9 {i j : Bool} : decide (V.bl i = V.bl j) = (i == j) := by
  rw [Bool.eq_iff_iff];simp
theorem zc9 {i j : Str} : decide (V.str i = V.str j) = (i == j) := by
  rw [Bool.eq_iff_iff];simp
theorem zc1 {i j : Array UInt8} : decide (V.byt i = V.byt j) = (i.toList == j.toList) := by
  rw [Bool.eq_iff_iff];cases i;cases j;simp
section
variable {X : Cx} {a b c : Expr} {ta tb tc : TE} {pos : Pos}
theorem yc {pins : List (Addr × Obj)} {σ : St} {H : Hp} {s : Shared} {Q : VK} {k k' : Bool} (I : Inv X pins σ H s) (q : Q (.bl k) H) (e : k = k') : EP X pins σ Q (.bool k') s := by
  subst e;exact ⟨.bl k, H, I, rfl, q⟩
theorem f7 : OpR X (compareOp .Eq) rEq := by
  intro pins s σ H x y v u Q I rx ry h;obtain ⟨hs, q⟩ := h
  cases x with
  | non =>
    cases rx
    cases y with
    | non => cases ry; exact PySem.EqNone.eq_none_none (yc I q (by simp))
    | bl j => cases ry; exact PySem.EqNone.eq_none_bool (yc I q (by simp))
    | int j => obtain ⟨t', rfl⟩ := ry; exact PySem.EqNone.eq_none_int (yc I q (by simp))
    | str j => obtain ⟨t', rfl⟩ := ry; exact PySem.EqNone.eq_none_str (yc I q (by simp))
    | _ => exact absurd (show false = true from hs) Bool.false_ne_true
  | bl i =>
    cases rx
    cases y with
    | non => cases ry; exact PySem.EqNone.eq_bool_none (yc I q (by simp))
    | bl j => cases ry; exact eq_bool (yc I q zf9)
    | str j => obtain ⟨t', rfl⟩ := ry; exact PySem.EqMixed.eq_bool_str (yc I q (by simp))
    | _ => exact absurd (show false = true from hs) Bool.false_ne_true
  | int i =>
    obtain ⟨t, rfl⟩ := rx
    cases y with
    | non => cases ry; exact PySem.EqNone.eq_int_none (yc I q (by simp))
    | int j => obtain ⟨t', rfl⟩ := ry; exact eq_int (yc I q zdm)
    | str j => obtain ⟨t', rfl⟩ := ry; exact PySem.EqMixed.eq_int_str (yc I q (by simp))
    | _ => exact absurd (show false = true from hs) Bool.false_ne_true
  | str i =>
    obtain ⟨t, rfl⟩ := rx
    cases y with
    | non => cases ry; exact PySem.EqNone.eq_str_none (yc I q (by simp))
    | bl j => cases ry; exact PySem.EqMixed.eq_str_bool (yc I q (by simp))
    | int j => obtain ⟨t', rfl⟩ := ry; exact PySem.EqMixed.eq_str_int (yc I q (by simp))
    | str j => obtain ⟨t', rfl⟩ := ry; exact eq_str (yc I q zc9)
    | _ => exact absurd (show false = true from hs) Bool.false_ne_true
  | byt i =>
    obtain ⟨t, rfl⟩ := rx
    cases y with
    | byt j => obtain ⟨t', rfl⟩ := ry; exact PySem.W.eq_bytes (yc I q zc1)
    | _ => exact absurd (show false = true from hs) Bool.false_ne_true
  | _ => cases y <;> exact absurd (show false = true from hs) Bool.false_ne_true
theorem fq : OpR X (compareOp .NotEq) rNe := by
  intro pins s σ H x y v u Q I rx ry h;obtain ⟨hs, q⟩ := h
  cases x with
  | non =>
    cases rx
    cases y with
    | non => cases ry; exact PySem.EqNone.ne_none_none (yc I q (by simp))
    | bl j => cases ry; exact PySem.EqNone.ne_none_bool (yc I q (by simp))
    | int j => obtain ⟨t', rfl⟩ := ry; exact PySem.EqNone.ne_none_int (yc I q (by simp))
    | str j => obtain ⟨t', rfl⟩ := ry; exact PySem.EqNone.ne_none_str (yc I q (by simp))
    | _ => exact absurd (show false = true from hs) Bool.false_ne_true
  | bl i =>
    cases rx
    cases y with
    | non => cases ry; exact PySem.EqNone.ne_bool_none (yc I q (by simp))
    | bl j => cases ry; exact ne_bool (yc I q (congrArg not zf9))
    | str j => obtain ⟨t', rfl⟩ := ry; exact PySem.EqMixed.ne_bool_str (yc I q (by simp))
    | _ => exact absurd (show false = true from hs) Bool.false_ne_true
  | int i =>
    obtain ⟨t, rfl⟩ := rx
    cases y with
    | non => cases ry; exact PySem.EqNone.ne_int_none (yc I q (by simp))
    | int j => obtain ⟨t', rfl⟩ := ry; exact ne_int (yc I q (congrArg not zdm))
    | str j => obtain ⟨t', rfl⟩ := ry; exact PySem.EqMixed.ne_int_str (yc I q (by simp))
    | _ => exact absurd (show false = true from hs) Bool.false_ne_true
  | str i =>
    obtain ⟨t, rfl⟩ := rx
    cases y with
    | non => cases ry; exact PySem.EqNone.ne_str_none (yc I q (by simp))
    | bl j => cases ry; exact PySem.EqMixed.ne_str_bool (yc I q (by simp))
    | int j => obtain ⟨t', rfl⟩ := ry; exact PySem.EqMixed.ne_str_int (yc I q (by simp))
    | str j => obtain ⟨t', rfl⟩ := ry; exact ne_str (yc I q (congrArg not zc9))
    | _ => exact absurd (show false = true from hs) Bool.false_ne_true
  | byt i =>
    obtain ⟨t, rfl⟩ := rx
    cases y with
    | byt j => obtain ⟨t', rfl⟩ := ry; exact PySem.W.ne_bytes (yc I q (congrArg not zc1))
    | _ => exact absurd (show false = true from hs) Bool.false_ne_true
  | _ => cases y <;> exact absurd (show false = true from hs) Bool.false_ne_true
theorem ao : OpR X (compareOp .Lt) (rI0 fun i j => .bl (decide (i < j))) := opB0 fun _ _ _ _ _ _ _ q => lt_int q
theorem e8 : OpR X (compareOp .LtE) (rI0 fun i j => .bl (decide (i <= j))) := opB0 fun _ _ _ _ _ _ _ q => le_int q
theorem zem : OpR X (compareOp .Gt) (rI0 fun i j => .bl (decide (j < i))) := opB0 fun _ _ _ _ _ _ _ q => gt_int q
theorem op_ge : OpR X (compareOp .GtE) (rI0 fun i j => .bl (decide (j <= i))) := opB0 fun _ _ _ _ _ _ _ q => ge_int q
theorem op_isN : OpR X (compareOp .Is) (fun x y H Q => y = .non /\ Q (.bl (decide (x = .non))) H) := by
  intro pins s σ H x y v u Q I rx ry h;obtain ⟨rfl, q⟩ := h;cases ry;refine is_none_gen (yc I q ?_)
  cases x <;> first
    | (cases rx; rfl)
    | (obtain ⟨t, rfl⟩ := rx; rfl)
theorem cq : OpR X (compareOp .IsNot) (fun x y H Q => y = .non /\ Q (.bl (!decide (x = .non))) H) := by
  intro pins s σ H x y v u Q I rx ry h;obtain ⟨rfl, q⟩ := h;cases ry;refine isnot_none_gen (yc I q ?_)
  cases x <;> first
    | (cases rx; rfl)
    | (obtain ⟨t, rfl⟩ := rx; rfl)
theorem yu (b : Expr) {op : CmpOp} (h : op ≠ .In := by decide) (h2 : op ≠ .NotIn := by decide) : behindInMarks op b = false := by
  have e1 : (op == CmpOp.In) = false := by cases op <;> first | rfl | exact absurd rfl h
  have e2 : (op == CmpOp.NotIn) = false := by cases op <;> first | rfl | exact absurd rfl h2
  cases b <;> simp [behindInMarks, e1, e2]
theorem l6 {op : CmpOp} {r : R2} (ho : OpR X (compareOp op) r) (ha : PE X a ta) (hb : PE X b tb) (hm : behindInMarks op b = false) : PE X (.Compare a [op] [b] pos) (tOp r ta tb) := by
  intro pins s σ H Q I h;exact wpAny_Compare1 (binT ha hb I h fun v u s2 x y H2 I2 rx ry q => ho pins s2 σ H2 x y v u Q I2 rx ry q) hm
def zet (t : TE) : TT := fun σ H Q => t σ H fun x H' => ∃ k, x = .bl k /\ Q k H'
theorem y6 {op : CmpOp} {r : R2} (ho : OpR X (compareOp op) r) (ha : PE X a ta) (hb : PE X b tb) (hm : behindInMarks op b = false) : PT X (.Compare a [op] [b] pos) (zet (tOp r ta tb)) := by
  intro pins s σ H Q I h
  refine wpAny_isTrue_Compare1 (thn (ha pins s σ H _ I h) fun v s1 ⟨x, H1, I1, r1, q1⟩ => thn (hb pins s1 σ H1 _ I1 q1) fun u s2 ⟨y, H2, I2, r2, q2⟩ =>
    thn (ho pins s2 σ H2 x y v u _ I2 r1 r2 q2) fun c s3 ⟨z, H3, I3, r3, k, e, q3⟩ => ?_) hm
  subst e;cases r3;exact wpAny_truthy_bool ⟨H3, I3, q3⟩
def zav (r r' : R2) (ta tb tc : TE) : TE := fun σ H Q => ta σ H fun x H1 => tb σ H1 fun y H2 => r x y H2 fun z H3 => ∃ k, z = .bl k /\
  (if k = true then tc σ H3 fun w' H4 => r' y w' H4 Q else Q (.bl false) H3)
theorem zho {op op' : CmpOp} {r r' : R2} (ho : OpR X (compareOp op) r) (ho' : OpR X (compareOp op') r') (ha : PE X a ta) (hb : PE X b tb) (hc : PE X c tc)
    (hm : lastMarks [op, op'] [b, c] = false := by with_unfolding_all rfl) : PE X (.Compare a [op, op'] [b, c] pos) (zav r r' ta tb tc) := by
  intro pins s σ H Q I h
  refine Compare_chain (thn (ha pins s σ H _ I h) fun v s1 ⟨x, H1, I1, r1, q1⟩ => chain_link (thn (hb pins s1 σ H1 _ I1 q1) fun u s2 ⟨y, H2, I2, r2, q2⟩ =>
    thn (ho pins s2 σ H2 x y v u _ I2 r1 r2 q2) fun d s3 ⟨z, H3, I3, r3, k, e, q3⟩ => ?_)) hm
  subst e;cases r3;refine wpAny_truthy_bool ?_
  cases k with
  | false => exact ite_ff ⟨.bl false, H3, I3, rfl, q3⟩
  | true => exact ite_tt (chain_last (thn (hc pins s3 σ H3 _ I3 q3) fun w' s4 ⟨z', H4, I4, r4, q4⟩ => ho' pins s4 σ H4 y z' u w' Q I4 r2 r4 q4))
theorem za6 {op op' : CmpOp} {r r' : R2} (ho : OpR X (compareOp op) r) (ho' : OpR X (compareOp op') r') (ha : PE X a ta) (hb : PE X b tb) (hc : PE X c tc)
    (hm : lastMarks [op, op'] [b, c] = false := by with_unfolding_all rfl) : PT X (.Compare a [op, op'] [b, c] pos) (zet (zav r r' ta tb tc)) := by
  intro pins s σ H Q I h
  refine isTrue_chain (thn (ha pins s σ H _ I h) fun v s1 ⟨x, H1, I1, r1, q1⟩ => test_link (thn (hb pins s1 σ H1 _ I1 q1) fun u s2 ⟨y, H2, I2, r2, q2⟩ =>
    thn (ho pins s2 σ H2 x y v u _ I2 r1 r2 q2) fun d s3 ⟨z, H3, I3, r3, k, e, q3⟩ => ?_)) hm
  subst e;cases r3;refine wpAny_truthy_bool ?_
  cases k with
  | false =>
    obtain ⟨k', e', q'⟩ := q3;cases e';exact ite_ff ⟨H3, I3, q'⟩
  | true =>
    refine ite_tt (test_last (thn (hc pins s3 σ H3 _ I3 q3) fun w' s4 ⟨z', H4, I4, r4, q4⟩ => thn (ho' pins s4 σ H4 y z' u w' _ I4 r2 r4 q4) fun d' s5 ⟨z2, H5, I5, r5, k2, e2, q5⟩ => ?_));subst e2;cases r5;exact wpAny_truthy_bool ⟨H5, I5, q5⟩
theorem ld : (sizeLine : Nat) < 2 ^ 63 := by rw [sizeLine_eq]; decide
theorem fj : OpR X (binaryOp .Add) (fun x y H Q => ∃ i j, x = .str i /\ y = .str j /\ i.length + j.length <= sizeLine /\ Q (.str (i ++ j)) H) := by
  intro pins s σ H x y v u Q I rx ry h;obtain ⟨i, j, rfl, rfl, hz, q⟩ := h;obtain ⟨t, rfl⟩ := rx;obtain ⟨t', rfl⟩ := ry;exact add_str (fun t' tk => ⟨.str (i ++ j), H, I.tok _, ⟨_, rfl⟩, q⟩) hz
theorem ml {x : V} {us : List Value} (r : Vals [x] us) : ∃ u, us = [u] /\ RelV x u := by
  cases r with
  | cons r1 r2 => cases r2; exact ⟨_, rfl, r1⟩
theorem za4 : ux X (.builtin "abs") (fun xs H Q => ∃ i, xs = [.int i] /\ Q (.int (if i < 0 then -i else i)) H) := by
  intro pins s σ H xs us Q I r h;obtain ⟨i, rfl, q⟩ := h;obtain ⟨u, rfl, t, rfl⟩ := ml r;exact call_abs_int fun u tk => ⟨.int (if i < 0 then -i else i), H, I.tok _, ⟨_, rfl⟩, q⟩
end
end L2
namespace L2
open PySem PySem.Spec PyProof.Rows
structure ObjM (h : Heap) (x dx C : Addr) (mA : Str -> Option Value) : Prop where
  obj : h.get? x = some (PySem.W.instObj C dx)
  ns : h.Ns1 dx mA
  ne : dx ≠ x
theorem ze3 {h : Heap} {dx : Addr} {mA : Str -> Option Value} (n : h.Ns1 dx mA) : ∃ od, h.get? dx = some od /\ ∀ name, PySem.W.lookIn name od = some (mA name) := by
  obtain ⟨o, es, ep, ho, hd, hk, _, hm⟩ := n;refine ⟨o, ho, fun name => ?_⟩;have e := hm name;unfold nsFind findBy at e;rw [<- Array.find?_toList] at e;unfold PySem.W.lookIn;rw [hd];dsimp only
  split
  . rename_i y q
    rw [q] at e;exact congrArg some e
  . rename_i q
    rw [q] at e
    have a : es.toList.any (·.refKey) = false := by
      rw [List.any_eq_false];intro y hy;obtain ⟨z, t, hkey⟩ := hk y (Array.mem_toList_iff.mp hy);simp [DictEntry.refKey, hkey]
    have a' : ¬ es.toList.any (·.refKey) = true := by rw [a]; exact Bool.false_ne_true
    rw [if_neg a'];exact congrArg some e
theorem ObjM.look {h : Heap} {x dx C : Addr} {mA : Str -> Option Value} (I : ObjM h x dx C mA) : ∃ od, PySem.W.InstAt h x (PySem.W.instObj C dx) C (some od) /\ ∀ name, PySem.W.lookIn name od = some (mA name) :=
  let ⟨od, ho, hl⟩ := ze3 I.ns
  ⟨od, ⟨I.obj, rfl, rfl, ho⟩, hl⟩
section
variable {prog : Program} {w : World} {A : Around} {E : Value -> Shared -> Prop} {s : Shared} {K : Fg} {x dx C f : Addr} {mA : Str -> Option Value} {name : Str} {v : Value}
end
theorem RelO.some_of {v : V} {o : Option Value} (r : RelO (some v) o) : ∃ u, o = some u /\ RelV v u := by
  cases o with
  | none => exact (show False from r).elim
  | some u => exact ⟨u, rfl, r⟩
section
variable {P : Program} {w : World} {H H' : Hp} {h h' : Heap} {a C dx : Addr} {fs fs' : List (Str × V)}
theorem zi7 (hok : HOk P w H h) (e : H a = some (.ins C dx fs)) : ∃ mA, ObjM h a dx C mA /\ (∀ f, RelO (fs.lookup f) (mA f)) /\ PySem.Within mA (fs.map (·.1)) /\ fs.length <= 1000 /\ H dx = some (.own a) := by
  obtain ⟨d, z, ne, ob, mA, n, r, q⟩ := (show ObjOk P w H h a (.ins C dx fs) from hok a _ e);exact ⟨mA, ⟨ob, n, ne⟩, r, q, z, d⟩
end
structure Cls (K : Fg) (C : Addr) : Prop where
  pg : PySem.W.plainGet K C Str.empty = true
  hd : PySem.W.hasDictIn K C = true
  po : PySem.W.plainOver K C = true
  sa : PySem.W.findIn K (.ref C) "__setattr__" = some (some (.builtin "object.__setattr__"))
theorem Cls.get {K : Fg} {C : Addr} (c : Cls K C) (f : Str) : PySem.W.plainGet K C f = true := c.pg
section
variable {X : Cx} {pins : List (Addr × Obj)} {σ : St} {H : Hp} {s : Shared} {a C dx : Addr} {fs : List (Str × V)} {f : Str} {v : V} {A : Around} {E : Value -> Shared -> Prop}
end
section
variable {X : Cx} {o e value : Expr} {f : Str} {pos pos' tpos : Pos} {ta tv : TE}
end
section
variable {X : Cx} {pins : List (Addr × Obj)} {σ : St} {H : Hp} {s : Shared} {A : Around} {E : Value -> Shared -> Prop} {Q : Value -> Shared -> Prop} {c : Value} {b : Bool}
inductive TyOf (K : Fg) (H : Hp) : V -> Value -> Prop where
  | non : TyOf K H .non (.type "NoneType")
  | bl (x : Bool) : TyOf K H (.bl x) (.type "bool")
  | int (i : Int) : TyOf K H (.int i) (.type "int")
  | str (x : Str) : TyOf K H (.str x) (.type "str")
  | flt (x : UInt64) : TyOf K H (.flt x) (.type "float")
  | lst {a : Addr} {xs : List V} (e : H a = some (.lst xs)) : TyOf K H (.ref a) (.type "list")
  | frz {a : Addr} {o : Obj} {xs : List V} (e : H a = some (.frz o (.lst xs))) : TyOf K H (.ref a) (.type "list")
  | tup {a : Addr} {xs : List V} (e : H a = some (.tup xs)) : TyOf K H (.ref a) (.type "tuple")
  | dK {a : Addr} {kvs : List (Key × V)} (e : H a = some (.dK kvs)) : TyOf K H (.ref a) (.type "dict")
  | dT {a : Addr} {kvs : List (List Key × V)} (e : H a = some (.dT kvs)) : TyOf K H (.ref a) (.type "dict")
  | ins {a C dx : Addr} {fs : List (Str × V)} (e : H a = some (.ins C dx fs)) (cl : Cls K C) (ha : PySem.W.findIn K (.ref C) "__class__" = some (some (.builtin "object.__class__")))
      (hn : PySem.W.specialIn K (.builtin "object.__class__") "__get__" = some (some (.builtin "getset_descriptor.__get__"))) (htk : PySem.W.takesIn K (.builtin "object.__class__") = some true)
      (hm : PySem.W.mroIn K C (.type "object") = some true) : TyOf K H (.ref a) (.ref C)
theorem zfr {x : V} {u t : Value} (I : Inv X pins σ H s) (rx : RelV x u) (ty : TyOf X.K H x t) (e : PySem.W.kitOne X.K t c = some b) (h : ∀ tk, Q (.bool b) { s with toks := tk }) :
    wpAny (model X.prog X.w) A (call (.builtin "isinstance") [u, c]) Q E s := by
  cases ty with
  | non => cases (show u = Value.none from rx); exact PySem.W.kia_one PySem.W.kitx_none I.kIn True.intro e (fun z => nomatch z) h
  | bl y => cases (show u = Value.bool y from rx); exact PySem.W.kia_one PySem.W.kitx_bool I.kIn True.intro e (fun z => nomatch z) h
  | int i => obtain ⟨t, q⟩ := (show ∃ t, u = Value.int i t from rx); cases q; exact PySem.W.kia_one PySem.W.kitx_int I.kIn True.intro e (fun z => nomatch z) h
  | str y => obtain ⟨t, q⟩ := (show ∃ t, u = Value.str y t from rx); cases q; exact PySem.W.kia_one PySem.W.kitx_str I.kIn True.intro e (fun z => nomatch z) h
  | flt y => obtain ⟨t, q⟩ := (show ∃ t, u = Value.float y t from rx); cases q; exact PySem.W.kia_one PySem.W.kitx_float I.kIn True.intro e (fun z => nomatch z) h
  | @lst a xs ea =>
    cases (show u = Value.ref a from rx);obtain ⟨_, _, n, _, h1⟩ := (show ObjOk X.prog X.w H s.heap a (.lst xs) from I.hok a _ ea);exact PySem.W.kia_one PySem.W.kitx_list I.kIn ⟨_, h1, rfl⟩ e (fun z => nomatch z) h
  | @frz a ob xs ea =>
    cases (show u = Value.ref a from rx);obtain ⟨_, _, _, n, _, h1⟩ := (show ObjOk X.prog X.w H s.heap a (.frz ob (.lst xs)) from I.hok a _ ea);exact PySem.W.kia_one PySem.W.kitx_list I.kIn ⟨_, h1, rfl⟩ e (fun z => nomatch z) h
  | @tup a xs ea =>
    cases (show u = Value.ref a from rx);obtain ⟨_, _, _, p⟩ := (show ObjOk X.prog X.w H s.heap a (.tup xs) from I.hok a _ ea);obtain ⟨o, h1, h2, _⟩ := p;exact PySem.W.kia_one PySem.W.kitx_tuple I.kIn ⟨o, h1, h2⟩ e (fun z => nomatch z) h
  | @dK a kvs ea =>
    cases (show u = Value.ref a from rx);obtain ⟨_, _, vs, _, p⟩ := (show ObjOk X.prog X.w H s.heap a (.dK kvs) from I.hok a _ ea);obtain ⟨o, es, ep, h1, h2, _⟩ := p;exact PySem.W.kia_one PySem.W.kitx_dict I.kIn ⟨o, h1, h2.1⟩ e (fun z => nomatch z) h
  | @dT a kvs ea =>
    cases (show u = Value.ref a from rx);obtain ⟨_, _, xs, _, o, es, ep, h1, h2, _⟩ := (show ObjOk X.prog X.w H s.heap a (.dT kvs) from I.hok a _ ea);exact PySem.W.kia_one PySem.W.kitx_dict I.kIn ⟨o, h1, h2.1⟩ e (fun z => nomatch z) h
  | @ins a C dx fs ea cl ha hn htk hm =>
    cases (show u = Value.ref a from rx);obtain ⟨mA, O, _⟩ := zi7 I.hok ea;obtain ⟨od, J, _⟩ := O.look;exact PySem.W.kia_one (PySem.W.kitx_own (cl.get _) cl.hd ha hn htk hm) I.kIn J e (fun z => nomatch z) h
end
end L2
namespace L2
open PySem PySem.Spec PyProof.Rows
structure Room (k : Nat) (A : Around) : Prop where
  hd : A.handled = none
  dp : A.depth + 3 * k + 5 < recursionLimit
  un : A.units + 16 * k + 200 < cLine
theorem Room.mono {j k : Nat} {A : Around} (r : Room k A) (h : j <= k) : Room j A := ⟨r.hd, by have := r.dp; omega, by have := r.un; omega⟩
theorem Room.deeper {k : Nat} {A : Around} (r : Room (k + 1) A) (env : Env) : Room k (A.deeper env) :=
  ⟨r.hd, by have := r.dp; show A.depth + 1 + 3 * k + 5 < _; omega, by have := r.un; show A.units + 3 + 16 * k + 200 < _; omega⟩
theorem Room.in1 {k : Nat} {A : Around} (r : Room (k + 1) A) : Room k A.in1 :=
  ⟨r.hd, by have := r.dp; show A.depth + 3 * k + 5 < _; omega, by have := r.un; show A.units + 1 + 16 * k + 200 < _; omega⟩
theorem Room.depth {k : Nat} {A : Around} (r : Room k A) : A.depth < recursionLimit := by have := r.dp; omega
def tNil : TA := fun _ H Q => Q [] H
def zee (ta : TE) (tr : TA) : TA := fun σ H Q => ta σ H fun x H1 => tr σ H1 fun xs H2 => Q (x :: xs) H2
section
variable {X : Cx} {e : Expr} {es : List Expr} {te : TE} {t : TA} {pos : Pos}
theorem zb : PA X [] tNil := fun _ _ _ _ H Q I h => Calls.spliced_nil ⟨[], H, I, .nil, h⟩
theorem za (ha : PE X e te) (hr : PA X es t) (hs : starEach (e :: es) X.env = (false, eval e X.env) :: starEach es X.env := by rfl) : PA X (e :: es) (zee te t) := by
  intro pos pins s σ H Q I h;rw [hs]
  show wpAny _ _ (spliced ((false, eval e X.env) :: backTo pos (starEach es X.env))) _ _ s
  refine Calls.spliced_cons (thn (ha pins s σ H _ I h) fun u s1 ⟨x, H1, I1, r1, q1⟩ => ?_);exact thn (hr pos pins s1 σ H1 _ I1 q1) fun us s2 ⟨xs, H2, I2, r2, q2⟩ => ⟨x :: xs, H2, I2, .cons r1 r2, q2⟩
def tTup (t : TA) : TE := fun σ H Q => t σ H fun xs H1 => xs.length <= sizeLine /\ ∀ p, H1 p = none -> Q (.ref p) (upd H1 p (.tup xs))
def tLst (t : TA) : TE := fun σ H Q => t σ H fun xs H1 => xs.length <= sizeLine /\ ∀ p, H1 p = none -> Q (.ref p) (upd H1 p (.lst xs))
theorem y7 {x1} (h : PA X es t) : PE X (.Tuple es x1 pos) (tTup t) := by
  intro pins s σ H Q I hq;refine wpAny_Tuple_spliced (thn (h pos pins s σ H _ I hq) fun us s1 ⟨xs, H1, I1, r, z, q⟩ => ⟨by rw [<- r.length]; exact z, ?_⟩);have hf : H1 s1.heap.objs.size = none := I1.hok.fresh (Zm _);refine ⟨.ref s1.heap.objs.size, upd H1 s1.heap.objs.size (.tup xs), I1.laid (t' := s1.toks) (fun b u e => Heap.get?_push_of_some _ e) (Zm _) ?_, rfl, q _ hf⟩;exact ⟨z, us, r, ⟨_, Heap.get?_push_size _ rfl, rfl, _, rfl, rfl⟩⟩
theorem wj (h : PA X es t) : PE X (.List es pos) (tLst t) := by
  intro pins s σ H Q I hq;refine wpAny_List_spliced (thn (h pos pins s σ H _ I hq) fun us s1 ⟨xs, H1, I1, r, z, q⟩ => ⟨by rw [<- r.length]; exact z, ?_⟩);have hf : H1 s1.heap.objs.size = none := I1.hok.fresh (Zm _);refine ⟨.ref s1.heap.objs.size, upd H1 s1.heap.objs.size (.lst xs), I1.laid (t' := s1.toks) (fun b u e => Heap.get?_push_of_some _ e) (Zm _) ?_, rfl, q _ hf⟩;exact ⟨z, us, 0, r, Heap.get?_push_size _ rfl⟩
end
abbrev Sp := List V -> Hp -> VK -> XK -> Prop
abbrev CXT := List Env -> Hp -> Shared -> XK -> Value -> Shared -> Prop
structure Env0 (P : Program) (w : World) (K : Fg) (mg : Str -> Option Value) (base : Heap) (A : Around) (outer : List Env) (s : Shared) (H : Hp) : Prop where
  frames : A.frames = some outer
  mod : Mod K mg base
  bs : ∀ b o, base.get? b = some o -> s.heap.get? b = some o /\ H b = none
  bsz : base.objs.size <= s.heap.objs.size
  funs : s.heap.FunFrames base outer
  frf : ∀ b ∈ frs outer, H b = none
  hok : HOk P w H s.heap
  bare : AllBare s.gens
def CE (outer : List Env) (P : Program) (w : World) (H : Hp) (s : Shared) (Q : VK) (u : Value) (s' : Shared) : Prop :=
  ∃ v H', s'.os = s.os /\ AllBare s'.gens /\ Un (frs outer) [] H H' s.heap s'.heap /\ HOk P w H' s'.heap /\ RelV v u /\ Q v H'
def CR (CX : CXT) (outer : List Env) (P : Program) (w : World) (H : Hp) (s : Shared) (Q : VK) (E : XK) (r : Result) (s' : Shared) : Prop :=
  match r with
  | .ok (.ret u) => CE outer P w H s Q u s'
  | .ok _ => False
  | .error e => CX outer H s E e s'
structure FnOk (P : Program) (w : World) (K : Fg) (mg : Str -> Option Value) (base : Heap) (CX : CXT) (k : Nat) (f : Addr) (fd : FuncData) (ps : List Str) (sp : Sp) : Prop where
  len : ∀ vs H Q E, sp vs H Q E -> vs.length = ps.length
  run : ∀ (A : Around) (outer : List Env) (s : Shared) (H : Hp) (args : Args) (us : List Value) (vs : List V) (Q : VK) (E : XK), Room k A -> Env0 P w K mg base A outer s H -> BindsTo s fd args (ps.zip us) -> Vals vs us -> sp vs H Q E ->
    codeAny (model P w) A (.call (.ref f) args) (CR CX outer P w H s Q E) s
theorem Env0.in1 {P : Program} {w : World} {K : Fg} {mg : Str -> Option Value} {base : Heap} {A : Around} {outer : List Env} {s : Shared} {H : Hp} (e : Env0 P w K mg base A outer s H) :
    Env0 P w K mg base A.in1 outer s H := ⟨e.frames, e.mod, e.bs, e.bsz, e.funs, e.frf, e.hok, e.bare⟩
section
variable {X : Cx} {pins : List (Addr × Obj)} {σ : St} {H : Hp} {s s' : Shared}
theorem Inv.env0 (I : Inv X pins σ H s) : Env0 X.prog X.w X.K X.mg X.base X.A X.stack s H :=
  ⟨I.ok.frames, I.ok.mod, I.bs, Zd I.ok.bsz I.sz, I.stack, I.stkFree, I.hok, I.bare⟩
theorem Inv.after {Q : VK} {u : Value} (I : Inv X pins σ H s) (h : CE X.stack X.prog X.w H s Q u s') : EP X pins σ Q u s' := by
  obtain ⟨v, H', os, bare, un, hok, r, q⟩ := h;obtain ⟨hh, g, d, t, os'⟩ := s';obtain rfl : os' = s.os := os;exact ⟨v, H', I.call (h' := hh) (g' := g) (d' := d) (t' := t) (ch := []) un hok bare (fun b z => absurd z (by simp)), r, q⟩
end
def am (sp : Sp) (dvs : List V) (E : XK) (t : TA) : TE := fun σ H Q => t σ H fun vs H1 => sp (vs ++ dvs) H1 Q E
def Binds (K : Fg) (fd : FuncData) (ps : List Str) (ds : List Value) : Prop :=
  ∀ (s : Shared) (us : List Value), K.In s.heap -> (us ++ ds).length = ps.length -> BindsTo s fd ⟨us, []⟩ (ps.zip (us ++ ds))
theorem Binds.all {K : Fg} {fd : FuncData} {ps : List Str} (h : ∀ us : List Value, us.length = ps.length -> bindArgs fd ⟨us, []⟩ = pure (ps.zip us)) : Binds K fd ps [] := fun s us _ hl => by
  rw [Ye] at hl ⊢;exact .of_eq (h us hl)
def jr (CX : CXT) (X : Cx) (E : XK) : Prop := ∀ (pins : List (Addr × Obj)) (σ : St) (H : Hp) (s : Shared) (e : Value) (s' : Shared), Inv X pins σ H s -> CX X.stack H s E e s' -> X.xe e s'
section
variable {X : Cx} {CX : CXT} {k : Nat} {f C : Addr} {fd : FuncData} {ps : List Str} {sp : Sp} {dvs : List V} {ds : List Value} {E : XK} {x m : Str} {p pos apos : Pos} {e o : Expr} {es : List Expr} {ta : TE} {t : TA}
theorem run_fn {pins : List (Addr × Obj)} {σ : St} {H : Hp} {s : Shared} {Q : VK} {us : List Value} {vs : List V} (F : FnOk X.prog X.w X.K X.mg X.base CX k f fd ps sp) (hr : Room k X.A) (hb : Binds X.K fd ps ds) (hd : Vals dvs ds) (hx : jr CX X E)
    (I : Inv X pins σ H s) (r : Vals vs us) (h : sp (vs ++ dvs) H Q E) : wpAny (model X.prog X.w) X.A (call (.ref f) us) (EP X pins σ Q) X.xe s := by
  have r2 : Vals (vs ++ dvs) (us ++ ds) := r.append hd;have hl : (us ++ ds).length = ps.length := by rw [<- r2.length]; exact F.len _ _ _ _ h
  refine wpAny_call (codeAny_mono (F.run X.A X.stack s H ⟨us, []⟩ (us ++ ds) (vs ++ dvs) Q E hr I.env0 (hb s us I.kIn hl) r2 h) fun r s' hq => ?_)
  cases r with
  | error e => exact hx pins σ H s e s' I hq
  | ok fl =>
    cases fl with
    | ret u => exact I.after hq
    | next => exact False.elim hq
    | brk => exact False.elim hq
    | cont => exact False.elim hq
theorem zda (F : FnOk X.prog X.w X.K X.mg X.base CX k f fd ps sp) (hr : Room k X.A) (hg : Gl X x) (hm : X.mg x = some (.ref f)) (hk : PySem.W.keepIn X.K (.ref f) = true) (hb : Binds X.K fd ps ds) (hd : Vals dvs ds) (hx : jr CX X E)
    (ha : PA X (e :: es) t) (hdb : (x == ("__debug__" : Str)) = false := by decide) (he : starEach (e :: es) X.env = (false, eval e X.env) :: starEach es X.env := by rfl) (hpl : (backTo pos (starEach es X.env)).any (·.1) = false := by rfl) :
    PE X (.Call (.Name x p) (e :: es) [] pos) (am sp dvs E t) := by
  intro pins s σ H Q I h;refine wpAny_Call_Name_kw (ir I hg hm ?_ hdb);refine PySem.W.callWith_K (h₀ := X.base) I.ok.mod.kin hk (thn (ha pos pins s σ H _ I h) fun us s1 ⟨vs, H1, I1, r, q⟩ => ⟨I1.kIn, ?_⟩) he hpl;exact run_fn F hr hb hd hx I1 r q
end
def PK (X : Cx) (kws : List Keyword) (t : TA) : Prop :=
  ∀ (pos : Pos) (pins : List (Addr × Obj)) (s : Shared) (σ : St) (H : Hp) (Q : List V -> Hp -> Prop), Inv X pins σ H s -> t σ H Q -> wpAny (model X.prog X.w) X.A (evalAll ((backToKw pos (keywordEach kws X.env)).map (·.2))) (AP X pins σ Q) X.xe s
section
variable {X : Cx} {CX : CXT} {k : Nat} {f C : Addr} {fd : FuncData} {ps ks : List Str} {sp : Sp} {E : XK} {x m : Str} {p pos apos kpos : Pos} {e o : Expr} {es : List Expr} {kws : List Keyword} {te ta : TE} {t tk : TA} {nm : Option Str}
theorem pk_nil : PK X [] tNil := fun _ _ _ _ H Q I h => wpAny_evalAll_nil ⟨[], H, I, .nil, h⟩
theorem zjb (ha : PE X e te) (hr : PK X kws t) : PK X (⟨nm, e, kpos⟩ :: kws) (zee te t) := by
  intro pos pins s σ H Q I h
  show wpAny _ _ (evalAll ((do let v <- eval e X.env; standAt pos; pure v) :: (backToKw pos (keywordEach kws X.env)).map (·.2))) _ _ s
  refine wpAny_evalAll_cons (wpAny_bind (thn (ha pins s σ H _ I h) fun u s1 ⟨x, H1, I1, r1, q1⟩ => wpAny_bind (wpAny_standAt (wpAny_pure ?_))));exact thn (hr pos pins s1 σ H1 _ I1 q1) fun us s2 ⟨xs, H2, I2, r2, q2⟩ => ⟨x :: xs, H2, I2, .cons r1 r2, q2⟩
variable {g : List Value -> List Value -> List Value} {gV : List V -> List V -> List V}
end
structure zn (N P : List Str) (sc : Scope) : Prop where
  kind : sc.kind = .function
  co : sc.isCoroutine = false
  gen : sc.isGenerator = false
  nd : N.Nodup
  pre : N.take P.length = P
  par : ∀ x ∈ P, sc.names.lookup x = some .local \/ sc.names.lookup x = some .cell
  nofree : ∀ y ∈ sc.names, y.2 ≠ .free
theorem bi {kindOf : Str -> Option NameKind} {x : Str} : ∀ {binds : List (Str × Value)} {m : Str -> Option Value}, (∀ v, (x, v) ∉ binds) -> bindL kindOf binds m x = m x
  | [], _, _ => rfl
  | (n, v) :: r, m, h => by
    unfold bindL;rw [bi fun w hw => h w (Zv _ hw)]
    split
    . have : x ≠ n := by rintro rfl; exact h v ZA
      simp [this]
    . rfl
theorem bu {kindOf : Str -> Option NameKind} {x : Str} : ∀ {binds : List (Str × Value)} {m : Str -> Option Value}, (∀ v, (x, v) ∉ binds) -> bindC kindOf binds m x = m x
  | [], _, _ => rfl
  | (n, v) :: r, m, h => by
    unfold bindC;rw [bu fun w hw => h w (Zv _ hw)]
    split
    . rfl
    . have : x ≠ n := by rintro rfl; exact h v ZA
      simp [this]
theorem bd {kindOf : Str -> Option NameKind} {x : Str} {v : Value} : ∀ {P : List Str} {vs : List Value} {i : Nat} {m : Str -> Option Value}, P.Nodup -> P[i]? = some x -> vs[i]? = some v -> kindOf x = some .local ->
    bindL kindOf (P.zip vs) m x = some v
  | [], _, _, _, _, h, _, _ => by simp at h
  | _ :: _, [], _, _, _, _, h, _ => by simp at h
  | p :: P, w :: vs, 0, m, nd, h1, h2, hk => by
    simp at h1 h2; subst h1; subst h2
    show bindL kindOf ((p, w) :: P.zip vs) m p = _
    unfold bindL;rw [bi fun v hv => (ZW.mp nd).1 (YS hv).1, if_pos hk];simp
  | p :: P, w :: vs, i + 1, m, nd, h1, h2, hk => by
    show bindL kindOf ((p, w) :: P.zip vs) m x = _
    unfold bindL;exact bd (i := i) (ZW.mp nd).2 (by simpa using h1) (by simpa using h2) hk
theorem bf {kindOf : Str -> Option NameKind} {x : Str} {v : Value} : ∀ {P : List Str} {vs : List Value} {i : Nat} {m : Str -> Option Value}, P.Nodup -> P[i]? = some x -> vs[i]? = some v -> kindOf x ≠ some .local ->
    bindC kindOf (P.zip vs) m x = some v
  | [], _, _, _, _, h, _, _ => by simp at h
  | _ :: _, [], _, _, _, _, h, _ => by simp at h
  | p :: P, w :: vs, 0, m, nd, h1, h2, hk => by
    simp at h1 h2; subst h1; subst h2
    show bindC kindOf ((p, w) :: P.zip vs) m p = _
    unfold bindC;rw [bu fun v hv => (ZW.mp nd).1 (YS hv).1, if_neg hk];simp
  | p :: P, w :: vs, i + 1, m, nd, h1, h2, hk => by
    show bindC kindOf ((p, w) :: P.zip vs) m x = _
    unfold bindC;exact bf (i := i) (ZW.mp nd).2 (by simpa using h1) (by simpa using h2) hk
def start (N : List Str) (vs : List V) : St := vs.map some ++ List.replicate (N.length - vs.length) none
def cxOf (CX : CXT) (P : Program) (w : World) (K : Fg) (mg : Str -> Option Value) (base : Heap) (N : List Str) (qual : Str) (scope : Scope) (f : Addr) (cd : Value) (A : Around) (outer : List Env) (s : Shared) (H : Hp) (E : XK) : Cx where
  prog := P
  w := w
  K := K
  mg := mg
  base := base
  A := A.deeper (envOfC qual scope s.heap.objs.size f cd)
  N := N
  s₀ := s
  H₀ := H
  env := envOfC qual scope s.heap.objs.size f cd
  outer := outer
  stack := envOfC qual scope s.heap.objs.size f cd :: outer
  ex := []
  calm := true
  fn := fun _ => true
  pn := []
  xe := fun e s' => wpAny (model P w) (A.deeper (envOfC qual scope s.heap.objs.size f cd)) (leaving (envOfC qual scope s.heap.objs.size f cd) e) (fun _ s'' => CX outer H s E e s'') (fun e' s'' => CX outer H s E e' s'') s'
theorem zbh {sc : Scope} {n : Nat} {x : Str} (h : sc.names.lookup x = some .cell) : ∃ c, (cellsFrom n sc.names []).lookup x = some c := by
  have q := PySem.W.cellsFrom_some sc.names n [] (.inl h);exact Ys.mp q
theorem zgg {CX : CXT} {P : Program} {w : World} {K : Fg} {mg : Str -> Option Value} {base : Heap} {N ps : List Str} {qual : Str} {scope : Scope} {f : Addr} {cd : Value} {A : Around} {outer : List Env} {s s1 : Shared} {H : Hp} {E : XK} {us : List Value} {vs : List V}
    (S : zn N ps scope) (hd : A.handled = none) (e0 : Env0 P w K mg base A outer s H) (hl : vs.length = ps.length) (r : Vals vs us)
    (x : InCallC s s.heap.objs.size (bindL (envOfC qual scope s.heap.objs.size f cd).kindOf (ps.zip us) fun _ => none) (cellsFrom (s.heap.objs.size + 1) scope.names []) (bindC (envOfC qual scope s.heap.objs.size f cd).kindOf (ps.zip us) fun _ => none) s1) :
    Inv (cxOf CX P w K mg base N qual scope f cd A outer s H E) [] (start N vs) H s1 := by
  have hpl : ps.length <= N.length := by have := congrArg List.length S.pre; rw [Zj] at this; omega
  obtain ⟨h1, tk, rfl, hk⟩ := x.done;have noA : ∀ b : Addr, b ∉ (cxOf CX P w K mg base N qual scope f cd A outer s H E).ex := fun b z => absurd (show b ∈ ([] : List Addr) from z) (by simp)
  refine ⟨⟨e0.mod, S.kind, rfl, rfl, Zm _, fun y z c h1 h2 => ?_, fun y hy => ?_, fun y c _ h => ?_, fun _ => hd, Around.frames_deeper e0.frames, .inr ⟨rfl, rfl⟩, fun b z => absurd z (noA b), e0.bs, e0.bsz, fun b _ _ => noA b, fun b z => absurd z (noA b), e0.funs, e0.frf⟩,
    rfl, e0.bare, Un.kept hk, ⟨_, x.toInCall.ns, fun i y v h1 h2 h3 => ?_⟩, fun y c h => ⟨_, x.cell y c h⟩, e0.hok.fresh (Zm _), fun y c h => ?_, fun p hp => absurd (show p ∈ ([] : List (Addr × Obj)) from hp) (by simp), e0.hok.kept hk, ?_⟩
  . exact name_of_addr x.apart (PySem.mem_of_lookup h1) (PySem.mem_of_lookup h2)
  . have hy : scope.names.lookup y = some .cell \/ scope.names.lookup y = some .free := hy
    rcases hy with hy | hy
    . exact zbh hy
    . exact absurd rfl (S.nofree _ (PySem.mem_of_lookup hy))
  . exact YF (x.above y c (PySem.mem_of_lookup h))
  . have hi : i < vs.length := by
      unfold start at h2
      by_cases hi : i < vs.length
      . exact hi
      . rw [Zf (by simpa using hi)] at h2
        rw [Yc] at h2
        split at h2 <;> cases h2
    have ha : vs[i]? = some v := by
      unfold start at h2;rw [Zg (by simpa using hi), Ze] at h2
      cases e : vs[i]? with
      | none => rw [e] at h2; cases h2
      | some a => rw [e] at h2; cases h2; rfl
    obtain ⟨u, hu, rv⟩ := r.get ha
    have hp : ps[i]? = some y := by
      rw [<- S.pre, List.getElem?_take_of_lt (by omega)]; exact h1
    have ndP : ps.Nodup := by rw [<- S.pre]; exact S.nd.sublist (List.take_sublist _ _)
    refine ⟨u, rv, ?_⟩
    rcases S.par y (Zi hp) with k | k
    . exact .inl ⟨k, bd ndP hp hu k⟩
    . obtain ⟨c, e⟩ := zbh (n := s.heap.objs.size + 1) k
      refine .inr ⟨.inl k, c, e, ?_⟩;have q := x.cell y c e;rw [bf ndP hp hu (by show scope.names.lookup y ≠ _; rw [k]; decide)] at q;exact q
  . exact e0.hok.fresh (YF (x.above y c (PySem.mem_of_lookup h)))
  . unfold start
    show _ = N.length
    rw [Zo, Za, ZI];omega
theorem fn_of {CX : CXT} {P : Program} {w : World} {K : Fg} {mg : Str -> Option Value} {base : Heap} {k : Nat} {f : Addr} {name qual : Str} {params : Arguments} {body : List Stmt} {scope : Scope} {dV kV doc pm cdv ct oc : Value} {an od : Option Addr}
    {osl : Array (Option Value)} {N ps : List Str} {sp : Sp} (lk : K.lookup f = some ⟨oc, od, .func (PySem.W.fnOf name qual params body scope dV kV doc pm an cdv ct), osl⟩) (hcd : PySem.W.codeIn K cdv qual = true) (S : zn N ps scope)
    (len : ∀ vs H Q E, sp vs H Q E -> vs.length = ps.length)
    (hbody : ∀ (A : Around) (outer : List Env) (s : Shared) (H : Hp) (vs : List V) (Q : VK) (E : XK), Room k (A.deeper (envOfC qual scope s.heap.objs.size f cdv)) -> sp vs H Q E ->
      ∃ t, PSs (cxOf CX P w K mg base N qual scope f cdv A outer s H E) body t /\ t { nx := fun _ H' => Q .non H', rt := Q } (start N vs) H) :
    FnOk P w K mg base CX (k + 1) f (PySem.W.fnOf name qual params body scope dV kV doc pm an cdv ct) ps sp := by
  refine ⟨len, fun A outer s H args us vs Q E hr e0 hb r hsp => ?_⟩;have hl := len _ _ _ _ hsp;have KX : K.In s.heap := e0.mod.kin.keeps fun b o e => (e0.bs b o e).1
  have lim : s.heap.NoLimit := e0.mod.nolimit.keeps fun b o e => (e0.bs b o e).1
  have hkind : ∀ y ∈ ps.zip us, scope.names.lookup y.1 = some .local \/ (scope.names.lookup y.1 = some .cell /\ ((cellsFrom (s.heap.objs.size + 1) scope.names []).lookup y.1).isSome = true) := fun ⟨n, v⟩ hy => by
    rcases S.par n (YS hy).1 with q | q
    . exact .inl q
    . exact .inr ⟨q, PySem.W.cellsFrom_some _ _ _ (.inl q)⟩
  refine codeAny_call_function hr.depth (KX _ _ lk) rfl S.co S.gen rfl (PySem.W.codeRec_of KX hcd) (hb _ _ _ _ ?_);refine wpAny_newFunctionEnv_cells S.kind hkind fun env he s1 x => ?_
  subst he;refine ⟨lim.keeps x.toInCall.keep, codeAny_func ?_⟩;obtain ⟨t, ht, hq⟩ := hbody A outer s H vs Q E (hr.deeper _) hsp;have I : Inv (cxOf CX P w K mg base N qual scope f cdv A outer s H E) [] (start N vs) H s1 := zgg S hr.hd e0 hl r x;refine wpAny_mono (ht [] s1 (start N vs) H _ I hq) (fun fl s' hs => ?_) fun e s' hs => hs
  have fin : ∀ {σ' : St} {H' : Hp} {v : V} {u : Value}, Inv (cxOf CX P w K mg base N qual scope f cdv A outer s H E) [] σ' H' s' -> RelV v u -> Q v H' -> CE outer P w H s Q u s' :=
    fun {σ' H' v u} J rv q => ⟨v, H', J.os, J.bare, J.base, J.hok, rv, q⟩
  cases fl with
  | ret u =>
    obtain ⟨v, σ', H', J, rv, q⟩ := hs;exact fin J rv q
  | next =>
    obtain ⟨σ', H', J, q⟩ := hs;exact fin (v := V.non) (u := Value.none) J rfl q
  | brk =>
    obtain ⟨_, _, _, q⟩ := hs;exact False.elim q
  | cont =>
    obtain ⟨_, _, _, q⟩ := hs;exact False.elim q
end L2
namespace L2
open PySem PySem.Spec PyProof.Rows
section
variable {X : Cx} {x : Str} {p pos : Pos} {e : Expr} {es : List Expr} {t : TA} {id T : String} {r : List V -> Hp -> VK -> Prop}
def tCB (r : List V -> Hp -> VK -> Prop) (t : TA) : TE := fun σ H Q => t σ H fun vs H1 => r vs H1 Q
theorem zq (hc : ux X (.builtin id) r) (hg : Gl X x) (hm : X.mg x = none) (hv : bootBuiltins x = some (.builtin id)) (ha : PA X (e :: es) t) (hn : x ≠ "__name__" := by decide) (hdb : (x == ("__debug__" : Str)) = false := by decide)
    (he : starEach (e :: es) X.env = (false, eval e X.env) :: starEach es X.env := by rfl) (hpl : (backTo pos (starEach es X.env)).any (·.1) = false := by rfl) : PE X (.Call (.Name x p) (e :: es) [] pos) (tCB r t) := by
  intro pins s σ H Q I h;refine wpAny_Call_Name_kw (ui I hg hm hv ?_ hn hdb);exact PyProof.Rows.callWith_builtin1 (thn (ha pos pins s σ H _ I h) fun us s1 ⟨vs, H1, I1, r1, q1⟩ => hc pins s1 σ H1 vs us Q I1 r1 q1) he hpl
theorem vc (hc : ux X (.type T) r) (hg : Gl X x) (hm : X.mg x = none) (hv : bootBuiltins x = some (.type T)) (ha : PA X (e :: es) t) (hn : x ≠ "__name__" := by decide) (hdb : (x == ("__debug__" : Str)) = false := by decide)
    (he : starEach (e :: es) X.env = (false, eval e X.env) :: starEach es X.env := by rfl) (hpl : (backTo pos (starEach es X.env)).any (·.1) = false := by rfl) : PE X (.Call (.Name x p) (e :: es) [] pos) (tCB r t) := by
  intro pins s σ H Q I h;refine wpAny_Call_Name_kw (ui I hg hm hv ?_ hn hdb);exact PyProof.Rows.callWith_type1 (thn (ha pos pins s σ H _ I h) fun us s1 ⟨vs, H1, I1, r1, q1⟩ => hc pins s1 σ H1 vs us Q I1 r1 q1) he hpl
end
end L2
namespace HT
open PySem PyProof.Rows
section
open PySem.SeqAt
open PySem.AutoSeq1 (wpAny_loadPart')
open PySem.MeetsSeq PySem.MeetsSeq2 PySem.MeetsSeq3
end
section
variable {prog : Program} {w : World} {A : Around} {E : Value -> Shared -> Prop} {s : Shared}
theorem cat_tup {t b : Addr} {vs ws : List Value} {Q : Value -> Shared -> Prop} (ht : IsTup s.heap t vs.toArray) (hb : IsTup s.heap b ws.toArray) (hv : vs ≠ [])
    (h1 : ws = [] -> Q (.ref t) s) (h2 : ws ≠ [] -> Q (.ref s.heap.objs.size) { s with heap := s.heap.push { cls := .type "tuple", data := .seq (vs ++ ws).toArray } })
    (hsz : vs.length + ws.length <= sizeLine) : wpAny (model prog w) A (binaryOp .Add (.ref t) (.ref b)) Q E s := by
  obtain ⟨⟨cls, dd, data, sl⟩, ho, hc, n, hd⟩ := id ht;obtain ⟨⟨cls2, dd2, data2, sl2⟩, ho2, hc2, n2, hd2⟩ := id hb;simp only at hc hd hc2 hd2;subst hc hd hc2 hd2;have e : vs.toArray ++ ws.toArray = (vs ++ ws).toArray := by simp
  by_cases hw : ws = []
  . exact concat_meets ⟨_, ho, rfl⟩ ⟨_, ho2, rfl⟩ noFill_tuple_add seq_tuple_add PySem.F.slot_tuple_add PySem.F.entry_tuple_add (PySem.F.args_tuple_add_2 _ _)
      (tuple_addW1 t b vs.toArray ws.toArray n n2 dd dd2 sl sl2 (by simpa using hv) (by simp [hw])) ⟨ho, ho2, h1 hw⟩
  . refine concat_meets ⟨_, ho, rfl⟩ ⟨_, ho2, rfl⟩ noFill_tuple_add seq_tuple_add PySem.F.slot_tuple_add PySem.F.entry_tuple_add (PySem.F.args_tuple_add_2 _ _)
      (tuple_addW2 t b vs.toArray ws.toArray n n2 dd dd2 sl sl2 (by simpa using hv) (by simpa using hw) (by rw [Zr, Zr]; exact hsz)) ⟨ho, ho2, ?_⟩
    rw [e];exact h2 hw
def sIx (n d : Nat) : Option Int -> Nat
  | none => d
  | some v => if v < 0 then (v + (n : Int)).toNat else min v.toNat n
theorem sIx_none (n d : Nat) : sIx n d none = d := rfl
theorem sIx_nat (n d k : Nat) : sIx n d (some (k : Int)) = min k n := by
  show (if (k : Int) < 0 then ((k : Int) + (n : Int)).toNat else min (k : Int).toNat n) = min k n
  rw [if_neg (by omega), Zw]
theorem sIx_le (n d : Nat) (hd : d <= n) (o : Option Int) : sIx n d o <= n := by
  cases o with
  | none => exact hd
  | some v =>
    show (if v < 0 then (v + (n : Int)).toNat else min v.toNat n) <= n
    by_cases hv : v < 0
    . rw [if_pos hv]; omega
    . rw [if_neg hv]; exact ZB _ _
theorem zct (v : Int) (n d : Nat) : (if v < 0 then max (v + (n : Int)) 0 else min v (n : Int)) = ((sIx n d (some v) : Nat) : Int) := by
  show (if v < 0 then max (v + (n : Int)) 0 else min v (n : Int)) = (((if v < 0 then (v + (n : Int)).toNat else min v.toNat n) : Nat) : Int)
  by_cases hv : v < 0
  . simp only [if_pos hv]; omega
  . simp only [if_neg hv]; omega
theorem zd1 (lo hi : Option Int) (n : Nat) : Builtin.Slice.sliceAdjust lo hi 1 (n : Int) = (((sIx n 0 lo : Nat) : Int), ((sIx n n hi : Nat) : Int)) := by
  have h1 : ¬ ((1 : Int) < 0) := by omega
  unfold Builtin.Slice.sliceAdjust;simp only [h1, if_false];refine Prod.ext ?_ ?_
  . cases lo with
    | none => rfl
    | some v => exact zct v n 0
  . cases hi with
    | none => rfl
    | some v => exact zct v n n
theorem zeo (i j : Nat) : Builtin.Slice.slicePlaces (i : Int) (j : Int) 1 = j - i := by
  unfold Builtin.Slice.slicePlaces;have h1 : (1 : Int) > 0 := by omega
  simp only [h1, if_true, Int.ediv_one]
  split <;> omega
theorem ef {v : Value} {o : Option Int} {Q : Option Int -> Shared -> Prop} (p : IsPart v o) (h : Q o s) : wpAny (model prog w) A (Builtin.Slice.slicePartIndex v) Q E s := by
  cases p with
  | none => exact slicePart_none h
  | int i t => exact slicePart_int h
theorem o9 {sl : Addr} {vl vu : Value} {lo hi : Option Int} {n : Nat} {Q : Int × Int × Nat -> Shared -> Prop} (hs : s.heap.IsSliceOf sl vl vu .none) (pl : IsPart vl lo) (pu : IsPart vu hi)
    (h : Q (((sIx n 0 lo : Nat) : Int), 1, sIx n n hi - sIx n 0 lo) s) : wpAny (model prog w) A (Builtin.Slice.sliceApplied (.ref sl) (pure (n : Int))) Q E s := by
  obtain ⟨os, hos, hcs, hds⟩ := id hs;unfold Builtin.Slice.sliceApplied Builtin.Slice.sliceFields;refine wpAny_bind (wpAny_bind (wpAny_field hos hds (x := vl) rfl (wpAny_bind (wpAny_field hos hds (x := vu) rfl (wpAny_bind (wpAny_field hos hds (x := .none) rfl (wpAny_pure ?_)))))));refine wpAny_bind (slicePart_none ?_)
  show wpAny _ _ (if ((1 : Int) == 0) = true then _ else _) _ _ s
  rw [if_neg (by decide)];refine wpAny_bind (ef pl (wpAny_bind (ef pu (wpAny_bind (wpAny_pure ?_)))))
  show wpAny _ _ (match Builtin.Slice.sliceAdjust lo hi 1 (n : Int) with | (lo, hi) => pure (lo, (1 : Int), Builtin.Slice.slicePlaces lo hi 1)) _ _ s
  rw [zd1 lo hi n]
  show wpAny _ _ (pure (((sIx n 0 lo : Nat) : Int), (1 : Int), Builtin.Slice.slicePlaces ((sIx n 0 lo : Nat) : Int) ((sIx n n hi : Nat) : Int) 1)) _ _ s
  rw [zeo];exact wpAny_pure h
theorem zhc (xs : Array Value) (i k : Nat) : ((List.range k).filterMap fun (m : Nat) => xs[((i : Int) + (m : Int) * 1).toNat]?).toArray = ((xs.toList.drop i).take k).toArray := by
  have e : (fun (m : Nat) => xs[((i : Int) + (m : Int) * 1).toNat]?) = fun m => xs[i + m]? := by
    funext m
    have : ((i : Int) + (m : Int) * 1).toNat = i + m := by omega
    rw [this]
  rw [e];have := pick_run xs i k;rw [List.filterMap_map] at this;have e2 : ((fun x => xs[x]?) ∘ fun x => i + x) = fun m => xs[i + m]? := rfl
  rw [e2] at this;rw [this]
theorem getItem_tuple_cut {t sl : Addr} {items : Array Value} {vl vu : Value} {lo hi : Option Int} {Q : Value -> Shared -> Prop} (ht : IsTup s.heap t items) (hs : s.heap.IsSliceOf sl vl vu .none) (pl : IsPart vl lo) (pu : IsPart vu hi)
    (hw : ¬ (sIx items.size 0 lo = 0 /\ sIx items.size items.size hi = items.size))
    (h : Q (.ref s.heap.objs.size) { s with heap := s.heap.push { cls := .type "tuple", data := .seq ((items.toList.drop (sIx items.size 0 lo)).take (sIx items.size items.size hi - sIx items.size 0 lo)).toArray } })
    (hsz : items.size <= sizeLine) : wpAny (model prog w) A (getItem (.ref t) (.ref sl)) Q E s := by
  have htake : sizeOk (.seq ((items.toList.drop (sIx items.size 0 lo)).take (sIx items.size items.size hi - sIx items.size 0 lo)).toArray) := by
    show ((items.toList.drop (sIx items.size 0 lo)).take (sIx items.size items.size hi - sIx items.size 0 lo)).toArray.size <= sizeLine
    rw [Zr, Zj, ZP, ZN];omega
  have hj : sIx items.size items.size hi <= items.size := sIx_le _ _ (Zm _) hi;obtain ⟨os, hos, hcs, hds⟩ := id hs;have hTs : s.TypeIs (.ref sl) "slice" := ⟨os, hos, hcs⟩;unfold getItem
  try with_reducible refine wpAny_holding ?_
  first | refine wpAny_bind (wpAny_pure ?_) | skip
  refine wpAny_bind (wpAny_sequenceKey ht.typeIs (by decide) ?_)
  refine wpAny_bind (wpAny_callSpecial?_slot (name := Str.ofString "__getitem__") ht.typeIs PyProof.Rows.slot_tuple_getitem
    (wpAny_call_entry PyProof.Rows.slot_tuple_getitem ht.typeIs entry_tuple_getitem ?_ (args_tuple_getitem _ _)))
  show wpAny _ _ (Builtin.Tuple.tupleItemsOf (.ref t) >>= _) _ _ s
  refine wpAny_bind (tupleItemsOf_ ht ?_);refine wpAny_bind (wpAny_typeOf hTs ?_);rw [if_pos (by decide)];refine wpAny_bind (o9 hs pl pu ?_)
  have hno : ¬ ((((sIx items.size 0 lo : Nat) : Int) == 0 && (1 : Int) == 1 && (sIx items.size items.size hi - sIx items.size 0 lo) == items.size) = true) := by
    intro q;rw [Bool.and_eq_true, Bool.and_eq_true] at q;have q1 : ((sIx items.size 0 lo : Nat) : Int) = 0 := eq_of_beq q.1.1;have q2 : sIx items.size items.size hi - sIx items.size 0 lo = items.size := eq_of_beq q.2;exact hw ⟨by omega, by omega⟩
  show wpAny _ _ (if (((sIx items.size 0 lo : Nat) : Int) == 0 && (1 : Int) == 1 && (sIx items.size items.size hi - sIx items.size 0 lo) == items.size) = true then _ else _) _ _ s
  rw [if_neg hno, zhc]
  first
    | exact wpAny_bind (m := Builtin.Tuple.tupleExact _) (wpAny_newObj_type (wpAny_pure ⟨_, rfl, wpAny_pure h⟩) htake)
    | exact wpAny_bind (m := Builtin.Tuple.tupleExact _) (wpAny_newObj_type (wpAny_bind (wpAny_pure (wpAny_pure ⟨_, rfl, wpAny_pure h⟩))) htake)
    | exact wpAny_bind (wpAny_bind (m := Builtin.Tuple.tupleExact _) (wpAny_newObj_type (wpAny_pure (wpAny_pure ⟨_, rfl, wpAny_pure h⟩)) htake))
    | exact wpAny_bind (wpAny_bind (m := Builtin.Tuple.tupleExact _) (wpAny_newObj_type (wpAny_pure ⟨_, rfl, wpAny_pure h⟩) htake))
end
end HT
namespace L2
open PySem PySem.Spec PyProof.Rows
abbrev TO := St -> Hp -> (Option Int -> Hp -> Prop) -> Prop
def PO (X : Cx) (e : Option Expr) (t : TO) : Prop :=
  ∀ (pins : List (Addr × Obj)) (s : Shared) (σ : St) (H : Hp) (Q : Option Int -> Hp -> Prop), Inv X pins σ H s -> t σ H Q ->
    wpAny (model X.prog X.w) X.A (evalPart e X.env) (fun u s' => ∃ o H', Inv X pins σ H' s' /\ IsPart u o /\ Q o H') X.xe s
def zdh : TO := fun _ H Q => Q none H
def tPart (t : TE) : TO := fun σ H Q => t σ H fun x H1 => ∃ i, x = .int i /\ Q (some i) H1
theorem fz {ns : List Int} : ∀ {us : List Value}, Vals (ns.map V.int) us -> IntsAre us ns := by
  induction ns with
  | nil => intro us r; rw [Yt] at r; cases r; exact .nil
  | cons n ns ih =>
    intro us r;rw [ZM] at r
    cases r with
    | cons r1 r2 =>
      obtain ⟨t, e⟩ := r1;subst e;exact .cons n t (ih r2)
section
variable {X : Cx} {e : Expr} {te : TE} {lo hi : Option Expr} {tl th : TO} {pos p2 : Pos}
theorem ul : PO X none zdh := by
  intro pins s σ H Q I h;rw [evalPart_none];exact wpAny_pure ⟨none, H, I, .none, h⟩
theorem uk (h : PE X e te) : PO X (some e) (tPart te) := by
  intro pins s σ H Q I hw;rw [evalPart_some];refine thn (h pins s σ H _ I hw) fun u s1 ⟨x, H1, I1, r1, q1⟩ => ?_
  obtain ⟨i, rfl, q⟩ := q1;obtain ⟨t, rfl⟩ := r1;exact ⟨some i, H1, I1, .int i t, q⟩
def SlR (X : Cx) (r : V -> Option Int -> Option Int -> Hp -> VK -> Prop) : Prop :=
  ∀ (pins : List (Addr × Obj)) (s : Shared) (σ : St) (H : Hp) (x : V) (v vl vu : Value) (lo hi : Option Int) (sl : Addr) (Q : VK), Inv X pins σ H s -> RelV x v -> s.heap.IsSliceOf sl vl vu .none -> IsPart vl lo -> IsPart vu hi -> r x lo hi H Q ->
    ∃ T id, typeLookup (.type T) "__getitem__" = pure (some (.builtin id)) /\ s.TypeIs v T /\ wpAny (model X.prog X.w) X.A (getItem v (.ref sl)) (EP X pins σ Q) X.xe s
def tSl (r : V -> Option Int -> Option Int -> Hp -> VK -> Prop) (te : TE) (tl th : TO) : TE := fun σ H Q => te σ H fun x H1 => tl σ H1 fun l H2 => th σ H2 fun u H3 => r x l u H3 Q
theorem vn {r : V -> Option Int -> Option Int -> Hp -> VK -> Prop} (hr : SlR X r) (he : PE X e te) (hl : PO X lo tl) (hu : PO X hi th) : PE X (.Subscript e (.Slice lo hi none p2) pos) (tSl r te tl th) := by
  intro pins s σ H Q I h;refine Subscript_ (thn (he pins s σ H _ I h) fun v s1 ⟨x, H1, I1, r1, q1⟩ => ?_);refine wpAny_Slice (thn (hl pins s1 σ H1 _ I1 q1) fun vl s2 ⟨l, H2, I2, pl, q2⟩ => thn (hu pins s2 σ H2 _ I2 q2) fun vu s3 ⟨u, H3, I3, pu, q3⟩ => ?_);rw [evalPart_none];refine wpAny_pure ?_;have I4 : Inv X pins σ H3 { s3 with heap := s3.heap.push { cls := .type "slice", data := .fields #[vl, vu, .none] } } := I3.kept (t' := s3.toks) fun b ob q => Heap.get?_push_of_some _ q
  obtain ⟨T, id, hT, ht, hg⟩ := hr pins { s3 with heap := s3.heap.push { cls := .type "slice", data := .fields #[vl, vu, .none] } } σ H3 x v vl vu l u s3.heap.objs.size Q I4 r1 (Heap.IsSliceOf.new ..) pl pu q3
  show wpAny (model X.prog X.w) X.A (subscriptTail e (.Slice lo hi none p2) v (.ref s3.heap.objs.size)) (EP X pins σ Q) X.xe { s3 with heap := s3.heap.push { cls := .type "slice", data := .fields #[vl, vu, .none] } }
  exact tail_any (ops := [.ref s3.heap.objs.size, v]) ht hT hg (by with_unfolding_all rfl)
def cutV (xs : List V) (lo hi : Option Int) : List V := (xs.drop (HT.sIx xs.length 0 lo)).take (HT.sIx xs.length xs.length hi - HT.sIx xs.length 0 lo)
theorem gm (xs : List V) (lo hi : Option Int) : (cutV xs lo hi).length <= xs.length := by
  unfold cutV;rw [Zj, ZP];omega
def rSlT (K : Fg) : V -> Option Int -> Option Int -> Hp -> VK -> Prop := fun x lo hi H Q => ∃ a xs, x = .ref a /\ SqT K H a xs /\
  ¬ (HT.sIx xs.length 0 lo = 0 /\ HT.sIx xs.length xs.length hi = xs.length) /\ ∀ p, H p = none -> Q (.ref p) (upd H p (.tup (cutV xs lo hi)))
theorem zam : SlR X (rSlT X.K) := by
  intro pins s σ H x v vl vu lo hi sl Q I rx hs pl pu h;obtain ⟨a, xs, rfl, hx, hw, q⟩ := h;cases rx;obtain ⟨its, r, ht, hz⟩ := I.tuple hx;have hlen : its.toArray.size = xs.length := by rw [Zr]; exact r.length.symm
  refine ⟨"tuple", _, PyProof.Rows.slot_tuple_getitem.lookup, ht.typeIs, ?_⟩;refine HT.getItem_tuple_cut ht hs pl pu (by rw [hlen]; exact hw) ?_ (by rw [hlen]; exact hz);rw [hlen];refine ⟨.ref s.heap.objs.size, _, I.laid (t' := s.toks) (o := .tup (cutV xs lo hi)) (fun b ob q => Heap.get?_push_of_some _ q) (Zm _) ?_, rfl, q _ (I.hok.fresh (Zm _))⟩;exact ⟨Zd (gm xs lo hi) hz, _, (r.drop (HT.sIx xs.length 0 lo)).take (HT.sIx xs.length xs.length hi - HT.sIx xs.length 0 lo), IsTupD.new _ _⟩
def rCatT (K : Fg) : R2 := fun x y H Q => ∃ a b xs ys, x = .ref a /\ y = .ref b /\ SqT K H a xs /\ SqT K H b ys /\ xs ≠ [] /\ xs.length + ys.length <= sizeLine /\
  (ys = [] -> Q (.ref a) H) /\ (ys ≠ [] -> ∀ p, H p = none -> Q (.ref p) (upd H p (.tup (xs ++ ys))))
theorem Vals.nil_iff {xs : List V} {us : List Value} (r : Vals xs us) : us = [] ↔ xs = [] := by
  cases r with
  | nil => simp
  | cons _ _ => simp
theorem zhy : OpR X (binaryOp .Add) (rCatT X.K) := by
  intro pins s σ H x y v u Q I rx ry h;obtain ⟨a, b, xs, ys, rfl, rfl, ha, hb, hx, hz, q1, q2⟩ := h;cases rx;cases ry;obtain ⟨its, r1, p1, _⟩ := I.tuple ha;obtain ⟨its2, r2, p2, _⟩ := I.tuple hb;refine HT.cat_tup p1 p2 (fun z => hx (r1.nil_iff.mp z)) (fun z => ⟨.ref a, H, I, rfl, q1 (r2.nil_iff.mp z)⟩) (fun z => ?_) (by rw [<- r1.length, <- r2.length]; exact hz);refine ⟨.ref s.heap.objs.size, _, I.laid (t' := s.toks) (o := .tup (xs ++ ys)) (fun b ob q => Heap.get?_push_of_some _ q) (Zm _) ?_, rfl, q2 (fun w => z (r2.nil_iff.mpr w)) _ (I.hok.fresh (Zm _))⟩;exact ⟨by rw [Zo]; exact hz, _, r1.append r2, IsTupD.new _ _⟩
end
end L2
namespace L2
open PySem PySem.Spec PyProof.Rows
def ixN (n : Nat) (i : Int) : Option Nat := if 0 <= i then (if i < n then some i.toNat else none) else if -(n : Int) <= i then some (i + n).toNat else none
def atI {α : Type} (xs : List α) (i : Int) : Option α := (ixN xs.length i).bind fun j => xs[j]?
theorem zii {n : Nat} {i : Int} {j : Nat} (h : ixN n i = some j) : seqIndex? i n = some j /\ j < n /\ -(n : Int) <= i /\ i < n := by
  unfold ixN at h
  by_cases h0 : 0 <= i
  . rw [if_pos h0] at h
    by_cases h1 : i < n
    . rw [if_pos h1] at h
      have e : i.toNat = j := Option.some.inj h;exact ⟨by rw [seqIndex_of h0 h1, e], by omega, by omega, h1⟩
    . rw [if_neg h1] at h; cases h
  . rw [if_neg h0] at h
    by_cases h1 : -(n : Int) <= i
    . rw [if_pos h1] at h
      have e : (i + n).toNat = j := Option.some.inj h;exact ⟨by rw [seqIndex_neg (by omega) h1, e], by omega, h1, by omega⟩
    . rw [if_neg h1] at h; cases h
theorem ck {α : Type} {xs : List α} {i : Int} {v : α} (h : atI xs i = some v) : ∃ j, seqIndex? i xs.length = some j /\ xs[j]? = some v /\ j < xs.length /\ -(xs.length : Int) <= i /\ i < xs.length := by
  unfold atI at h
  cases e : ixN xs.length i with
  | none => rw [e] at h; cases h
  | some j =>
    rw [e] at h;obtain ⟨h1, h2, h3, h4⟩ := zii e;exact ⟨j, h1, h, h2, h3, h4⟩
theorem ya {α : Type} {xs : List α} {j : Nat} {v : α} (h : xs[j]? = some v) : atI xs (j : Int) = some v := by
  have hj : j < xs.length := (Zc.mp h).1
  have e : ixN xs.length (j : Int) = some j := by
    unfold ixN;rw [if_pos (by omega), if_pos (by omega)]; simp
  unfold atI; rw [e]; exact h
theorem zg0 {α : Type} (xs : List α) (v : α) : atI (xs ++ [v]) (-1) = some v := by
  have hl : (xs ++ [v]).length = xs.length + 1 := by simp
  have e : ixN (xs ++ [v]).length (-1) = some xs.length := by
    unfold ixN;rw [hl, if_neg (by decide), if_pos (by omega)]
    congr 1
    omega
  unfold atI;rw [e]
  show (xs ++ [v])[xs.length]? = some v
  simp
def zhw (b : Expr) : Prop := ∀ o i, subscripted b false o i = operate [o, i] (getItem o i)
def IxR (X : Cx) (r : R2) : Prop :=
  ∀ (value slice : Expr) (pins : List (Addr × Obj)) (s : Shared) (σ : St) (H : Hp) (x y : V) (v u : Value) (Q : VK), Inv X pins σ H s -> RelV x v -> RelV y u -> r x y H Q ->
    subscripted slice false v u = operate [v, u] (getItem v u) -> wpAny (model X.prog X.w) X.A (subscriptTail value slice v u) (EP X pins σ Q) X.xe s
def MtR (X : Cx) (id : String) (r : V -> List V -> Hp -> VK -> Prop) : Prop :=
  ∀ (pins : List (Addr × Obj)) (s : Shared) (σ : St) (H : Hp) (x : V) (xs : List V) (v : Value) (us : List Value) (Q : VK), Inv X pins σ H s -> RelV x v -> Vals xs us -> r x xs H Q ->
    wpAny (model X.prog X.w) X.A (call (.builtin id) (v :: us)) (EP X pins σ Q) X.xe s
section
variable {X : Cx} {a b : Expr} {ta tb : TE} {pos : Pos}
theorem zx {r : R2} (hr : IxR X r) (ha : PE X a ta) (hb : PE X b tb) (hs : zhw b) : PE X (.Subscript a b pos) (tOp r ta tb) := by
  intro pins s σ H Q I h;exact Subscript_ (binT ha hb I h fun v u s2 x y H2 I2 rx ry q => hr a b pins s2 σ H2 x y v u Q I2 rx ry q (hs _ _))
def rIxL (K : Fg) : R2 := fun x y H Q => ∃ p xs i v, x = .ref p /\ y = .int i /\ SqL K H p xs /\ atI xs i = some v /\ Q v H
def rIxT (K : Fg) : R2 := fun x y H Q => ∃ p xs i v, x = .ref p /\ y = .int i /\ SqT K H p xs /\ atI xs i = some v /\ Q v H
def rIxS : R2 := fun x y H Q => ∃ z i c, x = .str z /\ y = .int i /\ z.length <= sizeLine /\ atI z.cps.toList i = some c /\ Q (.str ⟨#[c]⟩) H
theorem ye : IxR X (rIxL X.K) := by
  intro value slice pins s σ H x y v u Q I rx ry h hs;obtain ⟨p, xs, i, z, rfl, rfl, hq, he, q⟩ := h;cases rx;obtain ⟨t, rfl⟩ := ry;obtain ⟨its, r, pl, hz⟩ := I.list hq;obtain ⟨j, h1, h2, h3, h4, h5⟩ := ck he;obtain ⟨w, ew, rw'⟩ := r.get h2;have hl := r.length;have hn := ld;have fin : EP X pins σ Q w s := ⟨z, H, I, rw', q⟩
  by_cases h0 : 0 <= i
  . have hj : i.toNat = j := by
      rw [seqIndex_of h0 h5] at h1;exact Option.some.inj h1
    exact item_listR pl.isList h0 (by omega) (by rw [hj]; simpa using ew) fin hs
  . have hj : (i + (its.toArray.size : Int)).toNat = j := by
      rw [seqIndex_neg (by omega) h4] at h1;rw [Zr, <- hl];exact Option.some.inj h1
    exact subscriptTail_builtinR (x := w) pl.isList.typeIs slot_list_getitem.lookup
      (wpAny_getItem_list_neg (Q := fun r s' => r = w /\ EP X pins σ Q r s') pl.isList (by omega) (by rw [Zr] <;> omega) (by omega) (by rw [hj]; simpa using ew) ⟨rfl, fin⟩) hs
theorem yf : IxR X (rIxT X.K) := by
  intro value slice pins s σ H x y v u Q I rx ry h hs;obtain ⟨p, xs, i, z, rfl, rfl, hq, he, q⟩ := h;cases rx;obtain ⟨t, rfl⟩ := ry;obtain ⟨its, r, pl, hz⟩ := I.tuple hq;obtain ⟨j, h1, h2, h3, h4, h5⟩ := ck he;obtain ⟨w, ew, rw'⟩ := r.get h2;have hl := r.length;have hn := ld;have fin : EP X pins σ Q w s := ⟨z, H, I, rw', q⟩
  exact subscriptTail_builtinR (x := w) pl.typeIs slot_tuple_getitem.lookup
    (getItem_tuple (j := j) (Q := fun r s' => r = w /\ EP X pins σ Q r s') pl (by omega) (by omega) (by rw [Zr, <- hl]; exact h1) (by simpa using ew) ⟨rfl, fin⟩) hs
theorem zbr : IxR X rIxS := by
  intro value slice pins s σ H x y v u Q I rx ry h hs;obtain ⟨z, i, c, rfl, rfl, hz, he, q⟩ := h;obtain ⟨t, rfl⟩ := rx;obtain ⟨t', rfl⟩ := ry;obtain ⟨j, h1, h2, h3, h4, h5⟩ := ck he;have hl : z.cps.toList.length = z.length := by simp [Str.length]
  rw [hl] at h1 h4 h5;have hn := ld
  exact tail_any (typeIs_str s z t) slot_str_getitem.lookup (getItem_str (c := c) (by
    have e1 : decide (i < -(2 ^ 63 : Int)) = false := decide_eq_false (by omega);have e2 : decide (i ≥ 2 ^ 63) = false := decide_eq_false (by omega)
    rw [e1, e2, Bool.or_false]) (by rw [h1]; simpa using h2) ⟨.str ⟨#[c]⟩, H, I.tok _, ⟨_, rfl⟩, q⟩) hs
def rSetL : V -> V -> V -> Hp -> (Hp -> Prop) -> Prop := fun o i v H Q => ∃ p xs k j, o = .ref p /\ i = .int k /\ H p = some (.lst xs) /\ ixN xs.length k = some j /\ Q (upd H p (.lst (xs.set j v)))
theorem za2 (lo hi : Option Int) (n : Nat) : (sliceBounds lo hi none n).1 = ((HT.sIx n 0 lo : Nat) : Int) /\ (sliceBounds lo hi none n).2.1 = ((HT.sIx n n hi : Nat) : Int) /\ (sliceBounds lo hi none n).2.2 = 1 := by
  refine ⟨?_, ?_, rfl⟩
  . cases lo with
    | none => simp [sliceBounds, HT.sIx]
    | some i =>
      simp only [sliceBounds, HT.sIx, Option.getD_none, show (1 : Int) > 0 by decide, if_true]
      by_cases h : i < 0
      . simp only [h, if_true] <;> omega
      . simp only [h, if_false] <;> omega
  . cases hi with
    | none => simp [sliceBounds, HT.sIx]
    | some i =>
      simp only [sliceBounds, HT.sIx, Option.getD_none, show (1 : Int) > 0 by decide, if_true]
      by_cases h : i < 0
      . simp only [h, if_true] <;> omega
      . simp only [h, if_false] <;> omega
theorem ae (its : List Value) (lo hi : Option Int) : slicePick its.toArray lo hi none = ((its.drop (HT.sIx its.length 0 lo)).take (HT.sIx its.length its.length hi - HT.sIx its.length 0 lo)).toArray := by
  obtain ⟨h1, h2, h3⟩ := za2 lo hi its.toArray.size;unfold slicePick;rw [h1, h2, h3];simp only [sliceRange_one, pick_run, Zr] <;> rfl
def rSlL (K : Fg) : V -> Option Int -> Option Int -> Hp -> VK -> Prop := fun x lo hi H Q => ∃ a xs, x = .ref a /\ SqL K H a xs /\ ∀ p, H p = none -> Q (.ref p) (upd H p (.lst (cutV xs lo hi)))
theorem cv : SlR X (rSlL X.K) := by
  intro pins s σ H x v vl vu lo hi sl Q I rx hs pl pu h;obtain ⟨a, xs, rfl, hx, q⟩ := h;cases rx;obtain ⟨its, r, ht, hz⟩ := I.list hx;have hlen := r.length;refine ⟨"list", _, slot_list_getitem.lookup, ht.isList.typeIs, ?_⟩;refine wpAny_getItem_list_slice ht.isList hs pl pu .none (by simp) ?_ (by rw [Zr] <;> omega);rw [ae, <- hlen];refine ⟨.ref s.heap.objs.size, _, I.laid (t' := s.toks) (o := .lst (cutV xs lo hi)) (fun b ob q => Heap.get?_push_of_some _ q) (Zm _) ?_, rfl, q _ (I.hok.fresh (Zm _))⟩;exact ⟨Zd (gm xs lo hi) hz, _, 0, (r.drop (HT.sIx xs.length 0 lo)).take (HT.sIx xs.length xs.length hi - HT.sIx xs.length 0 lo), Heap.get?_push_size _ rfl⟩
def xi : V -> Bool
  | .non => true
  | .bl _ => true
  | .int _ => true
  | .str _ => true
  | _ => false
def eqV : V -> V -> Bool
  | .non, .non => true
  | .bl a, .bl b => a == b
  | .bl a, .int b => (if a then 1 else 0) == b
  | .int a, .bl b => a == (if b then 1 else 0)
  | .int a, .int b => a == b
  | .str a, .str b => a == b
  | _, _ => false
theorem a9 {A : Around} {s : Shared} {y x : V} {u v : Value} (ry : RelV y u) (rx : RelV x v) (fy : xi y = true) (fx : xi x = true) : SeqAt.EqAt A s u v (eqV y x) := by
  cases y with
  | non =>
    cases ry
    cases x with
    | non => cases rx; exact SeqAt.EqAt.same _
    | bl b => cases rx; exact SeqAt.EqAt.none_bool b
    | int b => obtain ⟨t, rfl⟩ := rx; exact SeqAt.EqAt.none_int b t
    | str b => obtain ⟨t, rfl⟩ := rx; exact SeqAt.EqAt.none_str b t
    | _ => exact absurd (show false = true from fx) Bool.false_ne_true
  | bl a =>
    cases ry
    cases x with
    | non => cases rx; exact SeqAt.EqAt.bool_none a
    | bl b => cases rx; exact SeqAt.EqAt.bool_bool a b
    | int b => obtain ⟨t, rfl⟩ := rx; exact SeqAt.EqAt.bool_int a b t
    | str b => obtain ⟨t, rfl⟩ := rx; exact SeqAt.EqAt.bool_str a b t
    | _ => exact absurd (show false = true from fx) Bool.false_ne_true
  | int a =>
    obtain ⟨t', rfl⟩ := ry
    cases x with
    | non => cases rx; exact SeqAt.EqAt.int_none a t'
    | bl b => cases rx; exact SeqAt.EqAt.int_bool a t' b
    | int b => obtain ⟨t, rfl⟩ := rx; exact SeqAt.EqAt.int_int a t' b t
    | str b => obtain ⟨t, rfl⟩ := rx; exact SeqAt.EqAt.int_str a t' b t
    | _ => exact absurd (show false = true from fx) Bool.false_ne_true
  | str a =>
    obtain ⟨t', rfl⟩ := ry
    cases x with
    | non => cases rx; exact SeqAt.EqAt.str_none a t'
    | bl b => cases rx; exact SeqAt.EqAt.str_bool a t' b
    | int b => obtain ⟨t, rfl⟩ := rx; exact SeqAt.EqAt.str_int a t' b t
    | str b => obtain ⟨t, rfl⟩ := rx; exact SeqAt.EqAt.str_str a t' b t
    | _ => exact absurd (show false = true from fx) Bool.false_ne_true
  | _ => exact absurd (show false = true from fy) Bool.false_ne_true
def eqU (x : V) (u : Value) : Bool := match u with
  | .none => eqV .non x
  | .bool b => eqV (.bl b) x
  | .int i _ => eqV (.int i) x
  | .str z _ => eqV (.str z) x
  | _ => false
theorem ze5 {x y : V} {u : Value} (r : RelV y u) (f : xi y = true) : eqU x u = eqV y x := by
  cases y with
  | non => cases r; rfl
  | bl b => cases r; rfl
  | int i => obtain ⟨t, rfl⟩ := r; rfl
  | str z => obtain ⟨t, rfl⟩ := r; rfl
  | _ => exact absurd (show false = true from f) Bool.false_ne_true
theorem fi {A : Around} {s : Shared} {x : V} {v : Value} (rx : RelV x v) (fx : xi x = true) : ∀ {xs : List V} {us : List Value}, Vals xs us -> xs.all xi = true -> ∀ u ∈ us, SeqAt.EqAt A s u v (eqU x u)
  | _, _, .nil, _ => fun u hu => by cases hu
  | y :: xs, u :: us, .cons r t, f => fun u' hu => by
    rw [List.all_cons, Bool.and_eq_true] at f
    rcases ZK.mp hu with rfl | hu
    . rw [ze5 r f.1]; exact a9 r rx f.1 fx
    . exact fi rx fx t f.2 u' hu
def inV (x : V) (xs : List V) : Bool := xs.any fun y => eqV y x
def rIn (K : Fg) (neg : Bool) : R2 := fun x y H Q => ∃ p xs, y = .ref p /\ (SqL K H p xs \/ SqT K H p xs) /\ xi x = true /\ xs.all xi = true /\ Q (.bl (if neg then !inV x xs else inV x xs)) H
theorem zt : ux X (.builtin "len") (fun xs H Q => ∃ p ys, xs = [.ref p] /\ (SqL X.K H p ys \/ SqT X.K H p ys) /\ Q (.int ys.length) H) := by
  intro pins s σ H xs us Q I r h;obtain ⟨p, ys, rfl, hq, q⟩ := h;obtain ⟨u, rfl, rx⟩ := ml r;cases rx;have hn := ld
  rcases hq with hq | hq
  . obtain ⟨its, r', pl, hz⟩ := I.list hq
    have hlen := r'.length;exact Calls.call_len_list pl.isList (by simp only [Zr] <;> omega) ⟨.int ys.length, H, I.tok _, ⟨s.toks + 1, by rw [Zr, hlen]⟩, q⟩
  . obtain ⟨its, r', pl, hz⟩ := I.tuple hq
    have hlen := r'.length;exact len_tuple pl (by simp only [Zr] <;> omega) ⟨.int ys.length, H, I.tok _, ⟨s.toks + 1, by rw [Zr, hlen]⟩, q⟩
theorem zah : ux X (.builtin "len") (fun xs H Q => ∃ z, xs = [.str z] /\ z.length <= sizeLine /\ Q (.int z.length) H) := by
  intro pins s σ H xs us Q I r h;obtain ⟨z, rfl, hz, q⟩ := h;obtain ⟨u, rfl, t, rfl⟩ := ml r;have hn := ld;exact len_str (by omega) ⟨.int z.length, H, I.tok _, ⟨_, rfl⟩, q⟩
theorem ni : ux X (.type "list") (fun xs H Q => ∃ p ys, xs = [.ref p] /\ (SqL X.K H p ys \/ SqT X.K H p ys) /\ ∀ l, H l = none -> Q (.ref l) (upd H l (.lst ys))) := by
  intro pins s σ H xs us Q I r h;obtain ⟨p, ys, rfl, hq, q⟩ := h;obtain ⟨u, rfl, rx⟩ := ml r;cases rx
  have fin : ∀ (its : List Value), Vals ys its -> ys.length <= sizeLine -> ∀ (h' : Heap) (c' : Nat), (∀ b o', s.heap.get? b = some o' -> h'.get? b = some o') ->
      h'.get? s.heap.objs.size = some { cls := .type "list", dict := none, data := .seq its.toArray c', slots := #[] } -> EP X pins σ Q (.ref s.heap.objs.size) { s with heap := h' } := fun its r' hz h' c' kp e =>
    ⟨.ref s.heap.objs.size, _, I.laid (t' := s.toks) kp (Zm _) (show ObjOk X.prog X.w _ h' _ (.lst ys) from ⟨hz, its, c', r', e⟩), rfl, q _ (I.hok.fresh (Zm _))⟩
  rcases hq with hq | hq
  . obtain ⟨its, r', pl, hz⟩ := I.list hq
    have hlen := r'.length;obtain ⟨o, ho, hc, n, hd⟩ := pl.isList;exact call_list_seq p (.inl rfl) ho hc hd (fun h' c' kp e => fin its r' hz h' c' kp e) (by simp only [Zr] <;> omega)
  . obtain ⟨its, r', pl, hz⟩ := I.tuple hq
    have hlen := r'.length;obtain ⟨o, ho, hc, n, hd⟩ := pl;exact call_list_seq p (.inr rfl) ho hc hd (fun h' c' kp e => fin its r' hz h' c' kp e) (by simp only [Zr] <;> omega)
theorem ac : ux X (.type "tuple") (fun xs H Q => ∃ p ys, xs = [.ref p] /\ ((SqL X.K H p ys /\ ∀ l, H l = none -> Q (.ref l) (upd H l (.tup ys))) \/ (SqT X.K H p ys /\ Q (.ref p) H))) := by
  intro pins s σ H xs us Q I r h;obtain ⟨p, ys, rfl, h⟩ := h;obtain ⟨u, rfl, rx⟩ := ml r;cases rx
  rcases h with ⟨hq, q⟩ | ⟨hq, q⟩
  . obtain ⟨its, r', pl, hz⟩ := I.list hq
    have hlen := r'.length;refine call_tuple_list pl.isList (fun h' kp => ?_) (by simp only [Zr] <;> omega);have I1 : Inv X pins σ H { s with heap := h' } := I.kept (t' := s.toks) kp
    have I2 : Inv X pins σ (upd H h'.objs.size (.tup ys)) { s with heap := h'.push { cls := .type "tuple", data := .seq its.toArray } } :=
      I1.laid (t' := s.toks) (fun b o e => Heap.get?_push_of_some _ e) (Zm _) (show ObjOk X.prog X.w _ _ _ (.tup ys) from ⟨hz, its, r', IsTupD.new _ _⟩)
    exact ⟨.ref h'.objs.size, _, I2, rfl, q _ (I1.hok.fresh (Zm _))⟩
  . obtain ⟨its, r', pl, hz⟩ := I.tuple hq
    exact call_tuple_same pl ⟨.ref p, H, I, rfl, q⟩
def tyV (K : Fg) (T : String) (x : V) (H : Hp) : Prop := match x with
  | .str _ => T = "str"
  | .int _ => T = "int"
  | .ref p => (T = "list" /\ ∃ xs, SqL K H p xs) \/ (T = "tuple" /\ ∃ o, K.lookup p = some o /\ o.cls = .type "tuple" /\ o.dict = none) \/
      (T = "dict" /\ ((∃ kvs, H p = some (.dK kvs)) \/ ∃ kvs, H p = some (.dT kvs))) \/ (T = "set" /\ ∃ S n, H p = some (.set S n))
  | _ => False
theorem tyV_is {pins : List (Addr × Obj)} {σ : St} {H : Hp} {s : Shared} {T : String} {x : V} {v : Value} (I : Inv X pins σ H s) (r : RelV x v) (ty : tyV X.K T x H) :
    s.TypeIs v T /\ ∀ a, v = .ref a -> ∃ ob, s.heap.get? a = some ob /\ ob.dict = none := by
  cases x with
  | str z =>
    obtain ⟨t, rfl⟩ := r;cases (show T = "str" from ty);exact ⟨typeIs_str s z t, fun _ e => nomatch e⟩
  | int i =>
    obtain ⟨t, rfl⟩ := r;cases (show T = "int" from ty);exact ⟨typeIs_int s i t, fun _ e => nomatch e⟩
  | ref p =>
    cases r
    rcases ty with ⟨rfl, xs, hq⟩ | ⟨rfl, o, hk, hc, hd⟩ | ⟨rfl, hk⟩ | ⟨rfl, S, n, hk⟩
    . obtain ⟨its, _, pl, _⟩ := I.list hq
      refine ⟨pl.isList.typeIs, fun a e => ?_⟩;cases e;obtain ⟨o, n, e, c, hd, _⟩ := pl;exact ⟨o, e, hd⟩
    . refine ⟨⟨o, I.kIn p o hk, hc⟩, fun a e => ?_⟩
      cases e;exact ⟨o, I.kIn _ o hk, hd⟩
    . have z : ∃ o, s.heap.get? p = some o /\ o.ExactDict := by
        rcases hk with ⟨kvs, hk⟩ | ⟨kvs, hk⟩
        . obtain ⟨_, _, _, _, o, _, _, e, ex, _⟩ := I.hok p _ hk
          exact ⟨o, e, ex⟩
        . obtain ⟨_, _, _, _, o, _, _, e, ex, _⟩ := I.hok p _ hk
          exact ⟨o, e, ex⟩
      obtain ⟨o, e, ex⟩ := z;refine ⟨⟨o, e, ex.1⟩, fun a e2 => ?_⟩;cases e2;exact ⟨o, e, ex.2.1⟩
    . obtain ⟨o, _, _, _, e, ex, _⟩ := I.hok p _ hk
      refine ⟨⟨o, e, ex.1⟩, fun a e2 => ?_⟩;cases e2;exact ⟨o, e, ex.2.1⟩
  | _ => exact False.elim ty
def tBM0 (K : Fg) (T : String) (r : V -> List V -> Hp -> VK -> Prop) (to : TE) : TE := fun σ H Q => to σ H fun x H1 => tyV K T x H1 /\ r x [] H1 Q
def tBM (K : Fg) (T : String) (r : V -> List V -> Hp -> VK -> Prop) (to : TE) (t : TA) : TE := fun σ H Q => to σ H fun x H1 => tyV K T x H1 /\ t σ H1 fun xs H2 => r x xs H2 Q
variable {o e : Expr} {es : List Expr} {to : TE} {t : TA} {name : Str} {apos cpos : Pos} {T id : String} {r : V -> List V -> Hp -> VK -> Prop}
theorem qk (pa : PlainAttrs T) (slot : Slot T name id) (hty : typeOf (.builtin id) = pure (.type "method_descriptor")) (hm : MtR X id r) (ho : PE X o to) (ha : PA X (e :: es) t)
    (hbase : attributeBase o name X.env (eval o X.env) = eval o X.env := by rfl)
    (hfew : ((backTo cpos (starEach (e :: es) X.env)).all (fun x => !x.1) && (backToKw cpos (keywordEach [] X.env)).all (fun x => x.1.isSome)
      && decide ((e :: es).length + ([] : List Keyword).length + (if ([] : List Keyword).isEmpty then 0 else 1) < 30)) = true := by rfl)
    (hline : (apos.endLine == cpos.line) = true := by rfl) (hs : starEach (e :: es) X.env = (false, eval e X.env) :: starEach es X.env := by rfl) (hplain : (backTo cpos (starEach es X.env)).any (·.1) = false := by rfl) :
    PE X (.Call (.Attribute o name apos) (e :: es) [] cpos) (tBM X.K T r to t) := by
  intro pins s σ H Q I h;refine wpAny_Call_method_late hbase hfew hline rfl (thn (ho pins s σ H _ I h) fun v s1 ⟨x, H1, I1, r1, ty, q1⟩ => ?_);obtain ⟨h1, h2⟩ := tyV_is I1 r1 ty;refine ⟨T, id, pa, slot, hty, h1, h2, ?_⟩;have hA := ha cpos pins s1 σ H1 _ I1 q1;rw [hs] at hA ⊢;refine Calls.callWith_builtin (by show (false || (backTo cpos (starEach es X.env)).any (·.1)) = false; rw [hplain] <;> rfl) (Calls.evalArgs_plain ?_);exact thn hA fun us s2 ⟨vs, H2, I2, r2, q2⟩ => hm pins s2 σ H2 x vs v us Q I2 r1 r2 q2
end
end L2
namespace L2
open PySem PySem.Spec PyProof.Rows
def MtM (X : Cx) (id : String) (r : V -> List V -> Hp -> VK -> Prop) : Prop :=
  ∀ (pins : List (Addr × Obj)) (s : Shared) (σ : St) (H : Hp) (x : V) (xs : List V) (v : Value) (us : List Value) (Q : VK), Inv X pins σ H s -> RelV x v -> Vals xs us -> r x xs H Q ->
    wpAny (model X.prog X.w) X.A (call (.builtin id) (v :: us)) (EP X pins σ Q) X.xe s
theorem Vals.one : ∀ {x : V} {us : List Value}, Vals [x] us -> ∃ u, us = [u] /\ RelV x u
  | _, _, .cons r .nil => ⟨_, rfl, r⟩
theorem Vals.two : ∀ {x y : V} {us : List Value}, Vals [x, y] us -> ∃ u v, us = [u, v] /\ RelV x u /\ RelV y v
  | _, _, _, .cons r (.cons q .nil) => ⟨_, _, rfl, r, q⟩
section
variable {X : Cx} {pins : List (Addr × Obj)} {σ : St} {H : Hp} {s : Shared} {l b : Addr} {xs ys zs : List V}
theorem Inv.lset {its its' : List Value} {n : Nat} {f : Array Value -> Array Value} {t' : Nat} (I : Inv X pins σ H s) (hH : H l = some (.lst xs))
    (e : s.heap.get? l = some { cls := .type "list", data := .seq its.toArray n }) (hf : f its.toArray = its'.toArray) (hv : Vals ys its') (hz : ys.length <= sizeLine) :
    Inv X pins σ (upd H l (.lst ys)) { s with heap := s.heap.update l (Obj.mapSeq f), toks := t' } := by
  have q := PySem.IsL.update e f;rw [hf] at q;refine I.write (x := l) (e := l) (by rw [hH]; exact trivial) (.inl rfl) (fun b' u hb hu => (Heap.get?_update_other s.heap (Obj.mapSeq f) (Ne.symm hb)).trans hu) ⟨_, q⟩ ?_;exact ⟨hz, its', _, hv, q⟩
theorem Inv.lnew {its : List Value} {t' : Nat} (I : Inv X pins σ H s) (hv : Vals ys its) (hz : ys.length <= sizeLine) :
    Inv X pins σ (upd H s.heap.objs.size (.lst ys)) { s with heap := s.heap.push { cls := .type "list", data := .seq its.toArray }, toks := t' } :=
  I.laid (fun _ _ q => Heap.get?_push_of_some _ q) (Zm _) ⟨hz, its, 0, hv, Heap.get?_push_size _ rfl⟩
theorem Inv.fresh (I : Inv X pins σ H s) : H s.heap.objs.size = none := I.hok.fresh (Zm _)
theorem Inv.lstM (I : Inv X pins σ H s) (hH : H l = some (.lst xs)) : xs.length <= sizeLine /\ ∃ (its : List Value) (n : Nat), Vals xs its /\ xs.length = its.length /\ s.heap.get? l = some { cls := .type "list", data := .seq its.toArray n } := by
  obtain ⟨z, its, n, r, e⟩ := I.hok l _ hH;exact ⟨z, its, n, r, r.length, e⟩
theorem zg4 {n : Nat} (h : n <= sizeLine) : Builtin.List.listTooLong n = false := by
  unfold Builtin.List.listTooLong;exact decide_eq_false (by omega)
end
section
variable {X : Cx}
def zcu : V -> List V -> Hp -> VK -> Prop := fun x vs H Q => ∃ l xs y, x = .ref l /\ vs = [y] /\ H l = some (.lst xs) /\ xs.length < sizeLine /\ Q .non (upd H l (.lst (xs ++ [y])))
theorem t7 : MtM X "list.append" zcu := by
  intro pins s σ H x vs v us Q I rx rv h;obtain ⟨l, xs, y, rfl, rfl, hH, hz, q⟩ := h;cases rx;obtain ⟨u, rfl, ru⟩ := rv.one;obtain ⟨z, its, n, r, hl, e⟩ := I.lstM hH;refine call_meets F.slot_list_append ⟨_, e, rfl⟩ F.entry_list_append (F.args_list_append_2 _ _) (PySem.list_append l its.toArray n u (by rw [Zr]; omega)) ⟨e, ?_⟩;refine ⟨.non, _, I.lset (its' := its ++ [u]) hH e (by simp) (r.append (.cons ru .nil)) ?_, rfl, q⟩;rw [Zo, Yo];omega
def zde : V -> List V -> Hp -> VK -> Prop := fun x vs H Q => ∃ l b xs zs, x = .ref l /\ vs = [.ref b] /\ H l = some (.lst xs) /\ H b = some (.lst zs) /\ xs.length + zs.length <= sizeLine /\ Q .non (upd H l (.lst (xs ++ zs)))
theorem bj : MtM X "list.extend" zde := by
  intro pins s σ H x vs v us Q I rx rv h;obtain ⟨l, b, xs, zs, rfl, rfl, hH, hB, hz, q⟩ := h;cases rx;obtain ⟨u, rfl, ru⟩ := rv.one;cases ru;obtain ⟨z, its, n, r, hl, e⟩ := I.lstM hH;obtain ⟨z2, its2, n2, r2, hl2, e2⟩ := I.lstM hB;have hsz : its.toArray.size + its2.toArray.size <= sizeLine := by rw [Zr, Zr]; omega
  have hlong : ¬ (!its.toArray.isEmpty && Builtin.List.listTooLong (its.toArray.size + its2.toArray.size)) = true := by
    rw [zg4 hsz, Bool.and_false];exact Bool.false_ne_true
  refine call_meets F.slot_list_extend ⟨_, e, rfl⟩ F.entry_list_extend (F.args_list_extend_2 _ _)
    (AutoSeq1.list_extend_list_list_0 l its.toArray n b its2.toArray n2 hlong (by rw [Zr]; omega) (by omega)) ⟨e, e2, ?_⟩
  refine ⟨.non, _, I.lset (its' := its ++ its2) hH e (by simp) (r.append r2) ?_, rfl, q⟩;rw [Zo];omega
def rPop : V -> List V -> Hp -> VK -> Prop := fun x vs H Q => ∃ l xs y, x = .ref l /\ vs = [] /\ H l = some (.lst xs) /\ xs[xs.length - 1]? = some y /\ Q y (upd H l (.lst xs.dropLast))
def rPopAt : V -> List V -> Hp -> VK -> Prop := fun x vs H Q => ∃ l xs i k y, x = .ref l /\ vs = [.int i] /\ H l = some (.lst xs) /\ -(2 ^ 63) <= i /\ i < 2 ^ 63 /\ seqIndex? i xs.length = some k /\ xs[k]? = some y /\ Q y (upd H l (.lst (xs.eraseIdx k)))
def zgw : V -> List V -> Hp -> VK -> Prop := fun x vs H Q => ∃ l xs, x = .ref l /\ vs = [] /\ H l = some (.lst xs) /\ Q .non (upd H l (.lst xs.reverse))
def rClear : V -> List V -> Hp -> VK -> Prop := fun x vs H Q => ∃ l xs, x = .ref l /\ vs = [] /\ H l = some (.lst xs) /\ Q .non (upd H l (.lst []))
def rCat : R2 := fun x y H Q => ∃ l b xs zs, x = .ref l /\ y = .ref b /\ H l = some (.lst xs) /\ H b = some (.lst zs) /\ xs.length + zs.length <= sizeLine /\ ∀ p, H p = none -> Q (.ref p) (upd H p (.lst (xs ++ zs)))
theorem zbk : OpR X (binaryOp .Add) rCat := by
  intro pins s σ H x y v u Q I rx ry h;obtain ⟨l, b, xs, zs, rfl, rfl, hH, hB, hz, q⟩ := h;cases rx;cases ry;obtain ⟨z, its, n, r, hl, e⟩ := I.lstM hH;obtain ⟨z2, its2, n2, r2, hl2, e2⟩ := I.lstM hB;refine PySem.P.add_list e e2 ?_ (by rw [Zr, Zr]; omega);have ea : its.toArray ++ its2.toArray = (its ++ its2).toArray := by simp
  rw [ea];exact ⟨.ref _, _, I.lnew (t' := s.toks) (r.append r2) (by rw [Zo]; omega), rfl, q _ I.fresh⟩
def rRep : R2 := fun x y H Q => ∃ l k xs, x = .ref l /\ y = .int k /\ H l = some (.lst xs) /\ -(2 ^ 63) <= k /\ k < 2 ^ 63 /\ xs.length * k.toNat <= sizeLine /\
  ∀ p, H p = none -> Q (.ref p) (upd H p (.lst (List.replicate k.toNat xs).flatten))
end
section
variable {prog : Program} {w : World} {A : Around} {E : Value -> Shared -> Prop} {s : Shared}
set_option maxRecDepth 100000 in
end
section
variable {X : Cx}
end
end L2
namespace Att
open PySem PySem.W PySem.Calls PyProof.Rows
theorem db {P : Params} {h : Heap} : ∀ (ns : List Int) (vs : List Value), WellAll P h vs (ns.map WData.int) -> IntsAre vs ns := by
  intro ns
  induction ns with
  | nil =>
    intro vs w;rw [Yt] at w;cases w;exact .nil
  | cons n ns ih =>
    intro vs w;rw [ZM] at w
    cases w with
    | cons a b =>
      cases a;exact .cons _ _ (ih _ b)
theorem zfw {l : OpenLaw} {n : Nat} (hn : l.most = some n) {P : Params} {h : Heap} {args : List WData} {vals : List Value}
    (hpre : l.row.toRowW.claim.pre args = true) (hwl : WellAll P h vals args) :
    ∃ a vs ns, vals = [Value.ref a] /\ args = [WData.list (ns.map WData.int)] /\ h.get? a = some { cls := .type "list", data := .seq vs.toArray } /\ IntsAre vs ns /\ ns.length <= n := by
  have hsh : WShape.hasAll [] args [.list .int] = true := (pre_splitW hpre).1;have hc : l.pre.holds [] { args := args } = true := (pre_splitW hpre).2;obtain ⟨d, r, rfl, h1, h2⟩ := hasAllW_cons hsh;obtain rfl := hasAllW_nil h2;obtain ⟨xs, rfl, h3⟩ := hasW_list h1;obtain ⟨ns, rfl⟩ := items_int h3
  have hlen : ns.length <= n := by
    unfold OpenLaw.pre at hc
    have h4 : (WTm.not (.lt (.lit (.int (n : Int))) (.len (.arg 0)))).holds [] { args := [.list (ns.map .int)] } = true := by
      have h4 := (holds_andW hc).1;rw [hn] at h4;exact h4
    have h5 := condW_of h4 (w_not (w_lt w_lit (w_len_list (w_arg rfl))));rw [Za] at h5;refine Nat.le_of_not_lt fun q => ?_
    have q' : (n : Int) < ((ns.length : Nat) : Int) := by omega
    first
      | (rw [decide_eq_true q'] at h5; exact absurd h5 (by decide))
      | (simp at h5; omega)
  cases hwl with
  | cons w1 w2 =>
    cases w2
    cases w1 with
    | list ho hall => exact ⟨_, _, ns, rfl, rfl, ho, db ns _ hall, hlen⟩
theorem zf8 (l : OpenLaw) (args : List WData) : l.row.toRowW.claim.post args (.bool true) args = true :=
  postW_of (r := l.row.toRowW) (X := (true == true))
    (show WShape.has [] (.bool true) .bool = true by first | rfl | decide | simp [WShape.has, WShape.arms, WShape.armsAll])
    (show (WTm.eq .res (.lit (.bool true))).value [] { args := args, res := some (.bool true), after := args } = some (.bool (true == true)) from w_eq_bool (w_res rfl) w_lit) rfl
theorem zch {l : OpenLaw} {n : Nat} {q : Program} {loose : List Str} {XP : (Str -> Option Value) -> Heap -> Prop} {YP : World -> Heap -> Prop} {d : DefRec}
    (hn : l.most = some n) (hdf : d.params.defaults = [])
    (call : ∀ (w : World) (s₀ s₁ : Shared) (mg mb : Str -> Option Value) (fa : Addr) (o : Obj) (pm cd doc : Value) (a : Addr) (vs : List Value) (ns : List Int),
      Ground q loose [] XP w s₀ mg mb s₁.heap -> YP w s₁.heap ->
      s₁.heap.get? fa = some o -> o.data = .func (docDef d.name d.params d.body d.scope pm cd doc) -> s₁.heap.CodeRec cd d.name -> mg d.name = some (.ref fa) ->
      s₁.heap.get? a = some { cls := .type "list", data := .seq vs.toArray } -> IntsAre vs ns -> ns.length <= n -> s₁.gens = #[] ->
      codeAny (model l.prog w) callerA (.call (.ref fa) ⟨[.ref a], []⟩) (fun r s' => r = .ok (.ret (.bool true)) /\ OldK s₁.heap s'.heap /\ s'.os = s₁.os /\ AllBare s'.gens) s₁) :
    WalkO q loose XP YP l.row.toRowW d [] (fun f vs => PySem.call f vs) := by
  intro w s₀ s₁ mg mb G Y fa o pm cd doc dV kV ho hd hcd hD hmg hg args vals as hpre hlay hrd hwl hlo;obtain rfl : dV = .none := Dflts.none hD hdf;obtain rfl : kV = .none := Dflts.noKw hD;obtain ⟨a, vs, ns, rfl, rfl, hobj, hints, hlen⟩ := zfw hn hpre hwl;refine enter_call (codeAny_mono (call w s₀ s₁ mg mb fa o pm cd doc a vs ns G Y ho (fd_plain hd) hcd hmg hobj hints hlen hg) fun r s' hq => ?_);obtain ⟨rfl, h2, h3, h4⟩ := hq;exact ⟨.inl ⟨.bool true, .bool true, [], rfl, fun _ => rfl, .bool true, zf8 l _, fun _ => ⟨List.Pairwise.nil, fun _ hm => (nomatch hm)⟩⟩, h2, h3, h4⟩
section
variable {prog : Program} {w : World} {A : Around} {E : Value -> Shared -> Prop} {s : Shared} {K : Frag}
end
end Att
namespace L2
open PySem PySem.Spec PyProof.Rows
theorem cz : ∀ {vs : List Value} {ns : List Int}, IntsAre vs ns -> Vals (ns.map V.int) vs
  | _, _, .nil => .nil
  | _, _, .cons n t h => .cons ⟨t, rfl⟩ (cz h)
def Only (H : Hp) : Prop := ∀ b, H b = none \/ ∃ o xs, H b = some (.frz o (.lst xs))
theorem zha {P : Program} {w : World} {K : Fg} {mg mb : Str -> Option Value} {CX : CXT} {k : Nat} {fa a : Addr} {fd : FuncData} {x : Str} {sp : Sp} {s₁ : Shared} {vs : List Value} {ns : List Int}
    (KX : K.In s₁.heap) (hns : s₁.heap.Ns mainGlobals mg) (hb : s₁.heap.Ns builtinsNs mb) (hbb : ∀ x : Str, x ≠ "__name__" -> mb x = bootBuiltins x) (hlim : s₁.heap.NoLimit) (hg : s₁.gens = #[])
    (ha : s₁.heap.get? a = some { cls := .type "list", data := .seq vs.toArray }) (hi : IntsAre vs ns) (hl : ns.length <= sizeLine) (hr : Room k callerA)
    (F : ∀ base : Heap, K.In base -> base.Ns mainGlobals mg -> FnOk P w K mg base CX k fa fd [x] sp) (hbind : ∀ (s : Shared) (u : Value), BindsTo s fd ⟨[u], []⟩ [(x, u)])
    (hsp : ∀ H : Hp, Only H -> SqL K H a (ns.map V.int) -> sp [.ref a] H (fun v _ => v = .bl true) fun _ _ _ => False)
    (hCX : ∀ H e s', CX [] H s₁ (fun _ _ _ => False) e s' -> False) :
    codeAny (model P w) callerA (.call (.ref fa) ⟨[.ref a], []⟩) (fun r s' => r = .ok (.ret (.bool true)) /\ OldK s₁.heap s'.heap /\ s'.os = s₁.os /\ AllBare s'.gens) s₁ := by
  have rv := cz hi;have lenV := hi.length
  -- from an abstract heap in which nothing but the script may be tracked
  have core : ∀ H : Hp, Only H -> SqL K H a (ns.map V.int) -> HOk P w H s₁.heap -> (∀ b, H b ≠ none -> b = a) -> (H a ≠ none -> K.lookup a = none) ->
      codeAny (model P w) callerA (.call (.ref fa) ⟨[.ref a], []⟩) (fun r s' => r = .ok (.ret (.bool true)) /\ OldK s₁.heap s'.heap /\ s'.os = s₁.os /\ AllBare s'.gens) s₁ := by
    intro H hO hS hok hA hK;have base_of : ∀ {b : Addr} {o : Obj}, s₁.heap.get? b = some o -> H b = none -> (hidT s₁.heap H).get? b = some o := fun e n => zgs e n
    have noA : ∀ {b : Addr} {o : Obj} {es : Array DictEntry} {ep : Nat}, s₁.heap.get? b = some o -> o.data = .dict es ep -> H b = none := fun {b o es ep} e d => by
      cases q : H b with
      | none => rfl
      | some u =>
        have e' : b = a := hA b (by rw [q]; simp);subst e';rw [ha] at e; cases e;have d' : Data.seq vs.toArray _ = Data.dict es ep := d;cases d'
    have nsK : ∀ {b : Addr} {m : Str -> Option Value}, s₁.heap.Ns b m -> (hidT s₁.heap H).Ns b m := fun {b m} ⟨o, es, ep, e, d, r⟩ => ⟨o, es, ep, base_of e (noA e d), d, r⟩
    have hKb : K.In (hidT s₁.heap H) := fun b o e => base_of (KX b o e) (by
      cases q : H b with
      | none => rfl
      | some u =>
        have e' : b = a := hA b (by rw [q]; simp);subst e'
        rw [hK (by rw [q]; simp)] at e; cases e)
    have hM : Mod K mg (hidT s₁.heap H) := ⟨hKb, nsK hns, ⟨mb, nsK hb, hbb⟩, let ⟨mc, h1, h2⟩ := hlim; ⟨mc, nsK h1, h2⟩⟩;have e0 : Env0 P w K mg (hidT s₁.heap H) callerA [] s₁ H := ⟨rfl, hM, fun b o e => zic e, Nat.le_of_eq (ze8 _ _), trivial, fun b hb => absurd (show b ∈ ([] : List Addr) from hb) (by simp), hok, .of_eq hg⟩;refine codeAny_mono ((F _ hKb (nsK hns)).run callerA [] s₁ H ⟨[.ref a], []⟩ [.ref a] [.ref a] _ _ hr e0 (hbind s₁ (.ref a)) (.cons rfl .nil) (hsp H hO hS)) fun r s' h => ?_
    cases r with
    | error e => exact (hCX H e s' h).elim
    | ok fl =>
      cases fl with
      | next => exact False.elim h
      | brk => exact False.elim h
      | cont => exact False.elim h
      | ret u =>
        obtain ⟨v, H', os, bare, un, hok', r', q⟩ := h;have q' : v = .bl true := q;subst q';obtain rfl : u = Value.bool true := r';refine ⟨rfl, OldK.of_keep fun b o e => ?_, os, bare⟩
        cases q : H b with
        | none => exact un.keep b o e q (by intro z; exact absurd (show b ∈ ([] : List Addr) from z) (by simp)) (by simp)
        | some u =>
          rcases hO b with z | ⟨ob, xs, z⟩
          . rw [q] at z; cases z
          . have z2 := un.frzs b ob _ z
            obtain ⟨e1, _⟩ := hok b _ z;obtain ⟨e2, _⟩ := hok' b _ z2;rw [e] at e1; cases e1;exact e2
  cases hk : K.lookup a with
  | some o =>
    -- the script is one of the module's own objects
    have e := KX a o hk;rw [ha] at e;cases e;refine core (fun _ => none) (fun _ => .inl rfl) (.inr ⟨_, vs.toArray, _, hk, rfl, rfl, rfl, by rw [Zr, lenV]; exact hl, by simpa using rv⟩) (fun b u z => by have z' : (none : Option HO) = some u := z; cases z') (fun b z => absurd rfl z) fun z => absurd rfl z
  | none =>
    refine core (fun b => if b = a then some (.frz { cls := .type "list", data := .seq vs.toArray } (.lst (ns.map V.int))) else none) (fun b => ?_) (.inl (.inr ⟨{ cls := .type "list", data := .seq vs.toArray }, if_pos rfl⟩)) (fun b u z => ?_) (fun b z => ?_) fun _ => hk
    . by_cases hb : b = a
      . exact .inr ⟨_, _, if_pos hb⟩
      . exact .inl (if_neg hb)
    . by_cases hb : b = a
      . have z' := (if_pos hb).symm.trans z
        cases z';subst hb;exact ⟨ha, by rw [Za]; exact hl, vs, _, rv, ha⟩
      . have z' := (if_neg hb).symm.trans z
        cases z'
    . by_cases hb : b = a
      . exact hb
      . exact absurd (if_neg hb) z
end L2
namespace L2
open PySem PySem.Spec PyProof.Rows
abbrev KOf {K : Fg} {h : Heap} (_ : K.In h) : Fg := K
theorem zih {l : PySem.W.OpenLaw} {n k : Nat} {q : Program} {loose : List Str} {XP : (Str -> Option Value) -> Heap -> Prop} {YP : World -> Heap -> Prop} {d : DefRec} {K : Params -> Fg} {CX : World -> CXT} {sp : World -> Sp} {x : Str}
    (hn : l.most = some n) (hn2 : n <= sizeLine) (hdf : d.params.defaults = []) (hr : Room k callerA)
    (hY : ∀ (w : World) (h : Heap), YP w h -> (K w.params).In h)
    (F : ∀ (w : World) (mg : Str -> Option Value) (fa : Addr) (h : Heap), (K w.params).In h -> h.Ns mainGlobals mg -> mg d.name = some (.ref fa) ->
      ∃ fd : FuncData, (∀ (s : Shared) (u : Value), BindsTo s fd ⟨[u], []⟩ [(x, u)]) /\
        ∀ base : Heap, (K w.params).In base -> base.Ns mainGlobals mg -> FnOk l.prog w (K w.params) mg base (CX w) k fa fd [x] (sp w))
    (hsp : ∀ (w : World) (H : Hp) (a : Addr) (ns : List Int), ns.length <= n -> Only H -> SqL (K w.params) H a (ns.map V.int) -> sp w [.ref a] H (fun v _ => v = .bl true) fun _ _ _ => False)
    (hCX : ∀ (w : World) (H : Hp) (s : Shared) (e : Value) (s' : Shared), CX w [] H s (fun _ _ _ => False) e s' -> False) :
    PySem.W.WalkO q loose XP YP l.row.toRowW d [] (fun f vs => PySem.call f vs) := by
  refine Att.zch hn hdf fun w s₀ s₁ mg mb fa o pm cd doc a vs ns G Y ho hd hcd hmg hobj hints hlen hg => ?_
  have KX := hY w _ Y;obtain ⟨fd, hb, hF⟩ := F w mg fa _ KX G.T.g hmg;exact zha KX G.T.g G.T.b G.T.builtins G.T.nolimit hg hobj hints (Zd hlen hn2) hr hF hb (fun H hO hS => hsp w H a ns hlen hO hS) fun H e s' => hCX w H s₁ e s'
theorem zhr {l : PySem.W.OpenLaw} {n k : Nat} {q : Program} {loose : List Str} {XP : (Str -> Option Value) -> Heap -> Prop} {YP : World -> Heap -> Prop} {d : DefRec} {K : Params -> Fg} {CX : CXT} {sp : Fg -> Sp} {x : Str}
    (hn : l.most = some n) (hn2 : n <= sizeLine) (hdf : d.params.defaults = []) (hr : Room k callerA)
    (hY : ∀ (w : World) (h : Heap), YP w h -> (K w.params).In h)
    (F : ∀ (w : World) (mg : Str -> Option Value) (fa : Addr) (h : Heap), (K w.params).In h -> h.Ns mainGlobals mg -> mg d.name = some (.ref fa) ->
      ∃ fd : FuncData, (∀ (s : Shared) (u : Value), BindsTo s fd ⟨[u], []⟩ [(x, u)]) /\
        ∀ base : Heap, (K w.params).In base -> base.Ns mainGlobals mg -> FnOk l.prog w (K w.params) mg base CX k fa fd [x] (sp (K w.params)))
    (hsp : ∀ (K : Fg) (H : Hp) (a : Addr) (ns : List Int), ns.length <= n -> Only H -> SqL K H a (ns.map V.int) -> sp K [.ref a] H (fun v _ => v = .bl true) fun _ _ _ => False)
    (hCX : ∀ (H : Hp) (s : Shared) (e : Value) (s' : Shared), CX [] H s (fun _ _ _ => False) e s' -> False) :
    PySem.W.WalkO q loose XP YP l.row.toRowW d [] (fun f vs => PySem.call f vs) :=
  zih (K := K) (CX := fun _ => CX) (sp := fun w => sp (K w.params)) hn hn2 hdf hr hY F (fun w H a ns h1 h2 h3 => hsp (K w.params) H a ns h1 h2 h3) fun _ H s e s' => hCX H s e s'
end L2
namespace L2
open PySem PySem.Spec PyProof.Rows
def t8 (s : Stmt) : Arguments := match s with
  | .FunctionDef _ a _ _ _ _ _ _ _ _ => a
  | _ => { posonlyargs := [], args := [], vararg := none, kwonlyargs := [], kw_defaults := [], kwarg := none, defaults := [] }
def xm (s : Stmt) : List Stmt := match s with
  | .FunctionDef _ _ b _ _ _ _ _ _ _ => b
  | _ => []
def zi (s : Stmt) : Scope := match s with
  | .FunctionDef _ _ _ _ _ _ sc _ _ _ => sc
  | _ => { kind := .function, names := [], isGenerator := false, isCoroutine := false }
abbrev CX0 : CXT := fun _ _ _ _ _ _ => False
abbrev E0 : XK := fun _ _ _ => False
theorem pass0 {X : Cx} : jr CX0 X E0 := fun _ _ _ _ _ _ _ h => h.elim
structure Fun (K : Fg) (x qual : Str) (st : Stmt) (f : Addr) (fd : FuncData) : Prop where
  ex : ∃ (oc : Value) (od : Option Addr) (kV doc pm : Value) (an : Option Addr) (cdv ct : Value) (osl : Array (Option Value)),
    fd = PySem.W.fnOf x qual (t8 st) (xm st) (zi st) .none kV doc pm an cdv ct /\ K.lookup f = some ⟨oc, od, .func fd, osl⟩ /\ PySem.W.codeIn K cdv qual = true
  kp : PySem.W.keepIn K (.ref f) = true
section
variable {P : Program} {w : World} {K : Fg} {mg : Str -> Option Value} {base : Heap}
theorem Fun.ok {x qual : Str} {st : Stmt} {f : Addr} {fd : FuncData} {N ps : List Str} {k : Nat} {sp : Sp} (F : Fun K x qual st f fd) (S : zn N ps (zi st)) (len : ∀ vs H Q E, sp vs H Q E -> vs.length = ps.length)
    (hbody : ∀ (cdv : Value) (A : Around) (outer : List Env) (s : Shared) (H : Hp) (vs : List V) (Q : VK) (E : XK), Room k (A.deeper (envOfC qual (zi st) s.heap.objs.size f cdv)) -> sp vs H Q E ->
      ∃ t, PSs (cxOf CX0 P w K mg base N qual (zi st) f cdv A outer s H E).nox (xm st) t /\ t { nx := fun _ H' => Q .non H', rt := Q } (start N vs) H) : FnOk P w K mg base CX0 (k + 1) f fd ps sp := by
  obtain ⟨oc, od, kV, doc, pm, an, cdv, ct, osl, rfl, lk, hcd⟩ := F.ex;refine fn_of lk hcd S len fun A outer s H vs Q E hr hsp => ?_
  obtain ⟨t, h, q⟩ := hbody cdv A outer s H vs Q E hr hsp;exact ⟨t, h.nox, q⟩
theorem Fun.binds {x qual : Str} {st : Stmt} {f : Addr} {fd : FuncData} {ps : List Str} (F : Fun K x qual st f fd)
    (h : ∀ (kV doc pm : Value) (an : Option Addr) (cdv ct : Value) (us : List Value), us.length = ps.length -> bindArgs (PySem.W.fnOf x qual (t8 st) (xm st) (zi st) .none kV doc pm an cdv ct) ⟨us, []⟩ = pure (ps.zip us)) : Binds K fd ps [] := by
  obtain ⟨oc, od, kV, doc, pm, an, cdv, ct, osl, rfl, lk, hcd⟩ := F.ex;exact .all (h kV doc pm an cdv ct)
theorem ze4 {x qual : Str} {st : Stmt} {f : Addr} {oc : Value} {od an : Option Addr} {osl : Array (Option Value)} {kV doc pm cdv ct : Value} (l : K.lookup f = some ⟨oc, od, .func (PySem.W.fnOf x qual (t8 st) (xm st) (zi st) .none kV doc pm an cdv ct), osl⟩)
    (c : PySem.W.codeIn K cdv qual = true) (k : PySem.W.keepIn K (.ref f) = true) : Fun K x qual st f (PySem.W.fnOf x qual (t8 st) (xm st) (zi st) .none kV doc pm an cdv ct) := ⟨⟨oc, od, kV, doc, pm, an, cdv, ct, osl, rfl, l, c⟩, k⟩
end
section
variable {X : Cx}
theorem pv (i : Nat) {x : Str} {pos : Pos} (hN : X.N[i]? = some x := by rfl) (hv : Vis X.env.scope x := by first | exact Or.inl rfl | exact Or.inr (Or.inl rfl) | exact Or.inr (Or.inr rfl)) (hd : (x == ("__debug__" : Str)) = false := by decide)
    (hcd : (x == ("__classdict__" : Str)) = false := by decide) : PE X (.Name x pos) (tVar i) := pe_var hN hv hd hcd
end
theorem iteF {A B : Prop} (h : B) : if false = true then A else B := by
  rw [if_neg Bool.false_ne_true];exact h
theorem iteT {A B : Prop} (h : A) : if true = true then A else B := by
  rw [if_pos rfl];exact h
theorem ite2 {c A B : Prop} [Decidable c] (h1 : c -> A) (h2 : ¬ c -> B) : if c then A else B := by
  by_cases h : c
  . rw [if_pos h]
    exact h1 h
  . rw [if_neg h]
    exact h2 h
theorem iu {c A B : Prop} [Decidable c] (hc : c) (h : B) : if (!decide c) = true then A else B := by
  rw [decide_eq_true hc];exact iteF h
def Same (H H' : Hp) : Prop := ∀ b o, H b = some o -> H' b = some o
theorem Same.refl (H : Hp) : Same H H := fun _ _ h => h
theorem Same.trans {H H1 H2 : Hp} (a : Same H H1) (b : Same H1 H2) : Same H H2 := fun c o h => b c o (a c o h)
theorem Same.free {H H' : Hp} (e : Same H H') {l : Addr} (h : H' l = Option.none) : H l = Option.none := by
  cases q : H l with
  | none => rfl
  | some o =>
    rw [e l o q] at h;cases h
theorem Same.seq {K : Fg} {H H' : Hp} {a : Addr} {xs : List V} (e : Same H H') (h : SqL K H a xs) : SqL K H' a xs := by
  rcases h with (h | ⟨o, h⟩) | h
  . exact .inl (.inl (e _ _ h))
  . exact .inl (.inr ⟨o, e _ _ h⟩)
  . exact .inr h
end L2
namespace L2
open PySem PySem.Spec PyProof.Rows
section
variable {κ : Type} [DecidableEq κ]
def valV (kvs : List (κ × V)) (k : κ) : Option V := (kvs.find? fun kv => decide (kv.1 = k)).map (·.2)
def putK (kvs : List (κ × V)) (k : κ) (v : V) : List (κ × V) :=
  if (kvs.any fun kv => decide (kv.1 = k)) = true then kvs.map (fun kv => if kv.1 = k then (kv.1, v) else kv) else kvs ++ [(k, v)]
theorem jb {p : κ × V} {r : List (κ × V)} {k : κ} (e : p.1 = k) : valV (p :: r) k = some p.2 := by simp [valV, Yj, e]
theorem jg {p : κ × V} {r : List (κ × V)} {k : κ} (e : ¬ p.1 = k) : valV (p :: r) k = valV r k := by simp [valV, Yj, e]
theorem kr (k : κ) : ∀ kvs : List (κ × V), (kvs.any fun kv => decide (kv.1 = k)) = (valV kvs k).isSome
  | [] => rfl
  | p :: r => by
    rw [List.any_cons]
    by_cases e : p.1 = k
    . simp only [jb e, decide_eq_true e, Bool.true_or, Option.isSome_some]
    . rw [jg e, decide_eq_false e, Bool.false_or]; exact kr k r
theorem zby (kvs : List (κ × V)) (k : κ) (v : V) : (putK kvs k v).length <= kvs.length + 1 := by
  unfold putK
  split
  . rw [Za]; omega
  . rw [Zo, ZL, ZZ]; omega
theorem zg2 {kvs : List (κ × V)} {k : κ} (v : V) (h : valV kvs k = none) : putK kvs k v = kvs ++ [(k, v)] := by
  unfold putK;rw [kr, h];exact if_neg (by decide)
theorem RelO.isSome_eq {o : Option V} {u : Option Value} (r : RelO o u) : o.isSome = u.isSome := by
  cases o with
  | none => cases u with
    | none => rfl
    | some _ => exact (show False from r).elim
  | some _ => cases u with
    | none => exact (show False from r).elim
    | some _ => rfl
theorem KV.val {kvs : List (κ × V)} {vs : List (κ × Value)} (r : KV kvs vs) (k : κ) : RelO (valV kvs k) (valueAt vs k) := by
  unfold KV at r
  induction r with
  | nil => exact True.intro
  | @cons p q ps qs h t ih =>
    obtain ⟨h1, h2⟩ := h
    by_cases e : p.1 = k
    . have e' : q.1 = k := h1.symm.trans e
      have b : valueAt (q :: qs) k = some q.2 := by simp [valueAt, Yj, e']
      rw [jb e, b]; exact h2
    . have e' : ¬ q.1 = k := fun z => e (h1.trans z)
      have b : valueAt (q :: qs) k = valueAt qs k := by simp [valueAt, Yj, e']
      rw [jg e, b]; exact ih
end
theorem kV_is {P : Program} {w : World} {k : Key} {u : Value} (r : RelV (kV k) u) : (wy P w).is k u = true := by
  cases k with
  | inl i => obtain ⟨t, e⟩ := (show ∃ t, u = Value.int i t from r); subst e; exact zb3 P w i t
  | inr x => obtain ⟨t, e⟩ := (show ∃ t, u = Value.str x t from r); subst e; exact zcf P w x t
theorem bq {P : Program} {w : World} : ∀ {ks : List Key} {us : List Value}, Vals (ks.map kV) us -> ItemsAre (wy P w) ks us
  | [], _, r => by rw [Yt] at r; cases r; exact .nil
  | k :: ks, _, r => by
    rw [ZM] at r
    cases r with
    | cons h t => exact .cons (kV_is h) (bq t)
abbrev KT (H : Hp) : List (List Key × V) -> List (List Key × Addr × Value) -> Prop := Paired fun p q => p.1 = q.1 /\ H q.2.1 = some (.tup (p.1.map kV)) /\ RelV p.2 q.2.2
theorem KT.val {H : Hp} {kvs : List (List Key × V)} {xs : List (List Key × Addr × Value)} (r : KT H kvs xs) (k : List Key) : RelO (valV kvs k) ((atKey xs k).map (·.2)) := by
  induction r with
  | nil => exact True.intro
  | @cons p q ps qs h t ih =>
    obtain ⟨h1, _, h2⟩ := h
    by_cases e : p.1 = k
    . have e' : q.1 = k := h1.symm.trans e
      have b : atKey (q :: qs) k = some q.2 := by simp [atKey, Yj, e']
      rw [jb e, b]; exact h2
    . have e' : ¬ q.1 = k := fun z => e (h1.trans z)
      have b : atKey (q :: qs) k = atKey qs k := by simp [atKey, Yj, e']
      rw [jg e, b]; exact ih
theorem KT.repl {H : Hp} {kvs : List (List Key × V)} {xs : List (List Key × Addr × Value)} (r : KT H kvs xs) (k : List Key) {y : V} {u : Value} (ry : RelV y u) :
    KT H (kvs.map fun kv => if kv.1 = k then (kv.1, y) else kv) (xs.map (putAt k u)) := by
  induction r with
  | nil => exact .nil
  | @cons p q ps qs h t ih =>
    rw [ZM, ZM];refine .cons ?_ ih;obtain ⟨h1, h2, h3⟩ := h;unfold putAt
    by_cases e : p.1 = k
    . rw [if_pos e, if_pos (h1.symm.trans e)]; exact ⟨h1, h2, ry⟩
    . rw [if_neg e, if_neg (fun z => e (h1.trans z))]; exact ⟨h1, h2, h3⟩
theorem KT.put {H : Hp} {kvs : List (List Key × V)} {xs : List (List Key × Addr × Value)} (r : KT H kvs xs) (k : List Key) {b : Addr} {y : V} {u : Value} (hb : H b = some (.tup (k.map kV))) (ry : RelV y u) :
    KT H (putK kvs k y) (storedH xs k b u) := by
  have e : (kvs.any fun kv => decide (kv.1 = k)) = (atKey xs k).isSome := by
    rw [kr, (r.val k).isSome_eq, Option.isSome_map]
  unfold putK storedH;rw [e]
  by_cases q : (atKey xs k).isSome = true
  . rw [if_pos q, if_pos q]; exact r.repl k ry
  . rw [if_neg q, if_neg q]; exact Paired.snoc r ⟨rfl, hb, ry⟩
theorem KT.keeps {H H' : Hp} {kvs : List (List Key × V)} {xs : List (List Key × Addr × Value)} (r : KT H kvs xs) (ht : ∀ b ys, H b = some (.tup ys) -> H' b = some (.tup ys)) : KT H' kvs xs :=
  Paired.mapP r fun _ _ z => ⟨z.1, ht _ _ z.2.1, z.2.2⟩
section
variable {P : Program} {w : World} {H : Hp} {h : Heap} {a : Addr}
theorem rd_of {u : HO} (ok : HOk P w H h) (e : Rd H a u) : ObjOk P w H h a u := e.ok ok
theorem dk_rd {kvs : List (Key × V)} (ok : HOk P w H h) (e : Rd H a (.dK kvs)) : kvs.length <= sizeLine /\ (a == sysModules) = false /\ ∃ vs, KV kvs vs /\ h.DictOf (wy P w) a vs :=
  show ObjOk P w H h a (.dK kvs) from rd_of ok e
theorem zbl {ks : List Key} (ok : HOk P w H h) (e : H a = some (.tup (ks.map kV))) : (tupleKind (wy P w)).is h ks a := by
  obtain ⟨_, its, r, o, h1, h2, n, h3⟩ := (show ObjOk P w H h a (.tup (ks.map kV)) from ok a _ e);exact ⟨o, its.toArray, n, h1, h2, h3.1, by simpa using bq r⟩
theorem dt_rd {kvs : List (List Key × V)} (ok : HOk P w H h) (e : Rd H a (.dT kvs)) : kvs.length <= sizeLine /\ (a == sysModules) = false /\
    ∃ xs, KT H kvs xs /\ h.DictOfH (tupleKind (wy P w)) a xs := by
  obtain ⟨z, y, xs, r, o, es, ep, h1, h2, h3, h4, h5⟩ := (show ObjOk P w H h a (.dT kvs) from rd_of ok e);refine ⟨z, y, xs, r, o, es, ep, h1, h2, h3, h4, fun x hx => ?_, h5⟩
  have all : ∀ {l : List (List Key × V)} {m : List (List Key × Addr × Value)}, KT H l m -> ∀ x ∈ m, (tupleKind (wy P w)).is h x.1 x.2.1 := by
    intro l m q
    induction q with
    | nil => intro x hx; exact nomatch hx
    | @cons p q ps qs hq t ih =>
      intro x hx
      rcases ZK.mp hx with e | hx
      . subst e
        exact zbl ok (by rw [<- hq.1]; exact hq.2.1)
      . exact ih x hx
  exact all r x hx
end
def DGet (H : Hp) (a : Addr) (y : V) (r : Option V) : Prop :=
  (∃ kvs k, Rd H a (.dK kvs) /\ y = kV k /\ r = valV kvs k) \/ ∃ kvs k b, Rd H a (.dT kvs) /\ y = .ref b /\ H b = some (.tup (k.map kV)) /\ r = valV kvs k
def DPut (H : Hp) (a : Addr) (y v : V) (H' : Hp) : Prop :=
  (∃ kvs k, H a = some (.dK kvs) /\ y = kV k /\ kvs.length < sizeLine /\ H' = upd H a (.dK (putK kvs k v))) \/
  ∃ kvs k b, H a = some (.dT kvs) /\ y = .ref b /\ H b = some (.tup (k.map kV)) /\ kvs.length < sizeLine /\ H' = upd H a (.dT (putK kvs k v))
theorem DGet.t {H : Hp} {a b : Addr} {kvs : List (List Key × V)} {k : List Key} (e : H a = some (.dT kvs)) (eb : H b = some (.tup (k.map kV))) : DGet H a (.ref b) (valV kvs k) := .inr ⟨kvs, k, b, .inl e, rfl, eb, rfl⟩
section
variable {X : Cx} {pins : List (Addr × Obj)} {σ : St} {H : Hp} {s : Shared} {a : Addr} {y v : V} {u r : Value} {o : Option V} {A : Around} {E : Value -> Shared -> Prop}
theorem Inv.big (I : Inv X pins σ H s) : sysModules < s.heap.objs.size := by
  have h : mainGlobals < s.heap.objs.size := (I.mod.glob.keeps I.bk).lt;exact Nat.lt_trans (by decide) h
theorem zey {Q : Value -> Shared -> Prop} (hu : A.units + 1 < cLine) (I : Inv X pins σ H s) (g : DGet H a y (some v)) (ry : RelV y u) (h : ∀ w' s', Inv X pins σ H s' -> RelV v w' -> Q w' s') :
    wpAny (model X.prog X.w) A (getItem (.ref a) u) Q E s := by
  rcases g with ⟨kvs, k, e, ey, l⟩ | ⟨kvs, k, b, e, ey, eb, l⟩
  . subst ey
    obtain ⟨z, hd, vs, rel, dd⟩ := dk_rd I.hok e;obtain ⟨w', hw, rw'⟩ := RelO.some_of (v := v) (o := valueAt vs k) (by rw [l]; exact rel.val k);exact wpAny_getItem_of (kV_is ry) dd.mapOf hw (h w' _ (I.tok _) rw')
  . subst ey
    cases (show u = Value.ref b from ry);obtain ⟨z, hd, xs, rel, dd⟩ := dt_rd I.hok e;obtain ⟨w', hw, rw'⟩ := RelO.some_of (v := v) (o := (atKey xs k).map (·.2)) (by rw [l]; exact rel.val k);obtain ⟨p, hp, hp2⟩ := Option.map_eq_some_iff.mp hw;refine wpAny_getItem_heap (tupleKind_room_in1 hu) (zbl I.hok eb) dd hp ?_;rw [hp2];exact h w' _ (I.tok _) rw'
end
section
variable {X : Cx} {pins : List (Addr × Obj)} {σ : St} {H : Hp} {s : Shared} {a : Addr} {kvs : List (Key × V)} {k : Key} {u : Value} {A : Around} {E : Value -> Shared -> Prop}
end
def NoSl (i : Expr) : Prop := ∀ ov iv, subscripted i false ov iv = operate [ov, iv] (getItem ov iv)
theorem zij {prog : Program} {w : World} {A : Around} {E : Value -> Shared -> Prop} {s : Shared} {env : Env} {value slice : Expr} {pos : Pos} {T id : String} {Q : Value -> Shared -> Prop}
    (hl : typeLookup (.type T) "__getitem__" = pure (some (.builtin id))) (hs : NoSl slice)
    (h : wpAny (model prog w) A (eval value env) (fun o s₁ => wpAny (model prog w) A (eval slice env) (fun i s₂ => s₂.TypeIs o T /\ wpAny (model prog w) A (getItem o i) Q E s₂) E s₁) E s) :
    wpAny (model prog w) A (eval (.Subscript value slice pos) env) Q E s := by
  refine Subscript_ (wpAny_mono h (fun o s₁ h₁ => wpAny_mono h₁ (fun i s₂ h₂ => ?_) fun _ _ x => x) fun _ _ x => x);obtain ⟨hT, h₂⟩ := h₂;unfold subscriptTail;refine wpAny_bind ?_;rw [getitemInPython_of_ne hT.not_modules];refine wpAny_bind (wpAny_specialOf hT hl ?_)
  have fin : wpAny (model prog w) A (subscripted slice false o i) (fun r s₃ => wpAny (model prog w) A (letTemporaryGo value o r >>= fun _ => pure r) Q E s₃) E s₂ := by
    rw [hs o i];exact wpAny_operating (wpAny_mono h₂ (fun r s₃ h₃ => wpAny_bind (wpAny_letTemporaryGo (wpAny_pure h₃))) fun _ _ x => x)
  first
    | exact wpAny_pure (wpAny_bind fin)
    | exact wpAny_bind (wpAny_pure (wpAny_bind fin))
    | exact wpAny_bind fin
theorem zcg {X : Cx} {pins : List (Addr × Obj)} {σ : St} {H : Hp} {s : Shared} {a : Addr} {y : V} {o : Option V} (I : Inv X pins σ H s) (g : DGet H a y o) : s.TypeIs (.ref a) "dict" := by
  rcases g with ⟨kvs, k, e, _, _⟩ | ⟨kvs, k, b, e, _, _, _⟩
  . obtain ⟨_, _, vs, _, dd⟩ := dk_rd I.hok e
    exact dd.typeIs
  . obtain ⟨_, _, xs, _, dd⟩ := dt_rd I.hok e
    exact dd.typeIs
def tDGet (td ty : TE) : TE := fun σ H Q => td σ H fun x H1 => ty σ H1 fun y H2 => ∃ a v, x = .ref a /\ DGet H2 a y (some v) /\ Q v H2
section
variable {X : Cx} {o i e value : Expr} {pos pos' tpos : Pos} {td ty tv : TE}
theorem zdf (hu : X.A.units + 1 < cLine) (ho : PE X o td) (hi : PE X i ty) (hs : NoSl i) : PE X (.Subscript o i pos) (tDGet td ty) := by
  intro pins s σ H Q I h;refine zij PySem.F.slot_dict_getitem.lookup hs (thn (ho pins s σ H _ I h) fun u s1 ⟨x, H1, I1, rx, q1⟩ => thn (hi pins s1 σ H1 _ I1 q1) fun iv s2 ⟨y, H2, I2, ry, a, v, ex, g, q2⟩ => ?_);subst ex;obtain rfl : u = Value.ref a := rx;exact ⟨zcg I2 g, zey hu I2 g ry fun w' s3 I3 rw' => ⟨v, H2, I3, rw', q2⟩⟩
end
def tDNewK : TE := fun _ H Q => ∀ p, H p = none -> Q (.ref p) (upd H p (.dK []))
def tDNewT : TE := fun _ H Q => ∀ p, H p = none -> Q (.ref p) (upd H p (.dT []))
section
variable {X : Cx} {pos : Pos}
end
def l7 : List (TE × TE) -> St -> Hp -> (List (V × V) -> Hp -> Prop) -> Prop
  | [], _, H, Q => Q [] H
  | (tk, tv) :: r, σ, H, Q => tk σ H fun x H1 => tv σ H1 fun y H2 => l7 r σ H2 fun ps H3 => Q ((x, y) :: ps) H3
def zf3 (kvs more : List (Key × V)) : List (Key × V) := more.foldl (fun acc kv => putK acc kv.1 kv.2) kvs
def tDisp (trs : List (TE × TE)) : TE := fun σ H Q => ∀ p, H p = none -> l7 trs σ (upd H p (.dK [])) fun ps H2 => H2 p = some (.dK []) /\ ∃ kvs : List (Key × V), ps = kvs.map (fun kv => (kV kv.1, kv.2)) /\ kvs.length <= 15 /\ Q (.ref p) (upd H2 p (.dK (zf3 [] kvs)))
def IsD (H : Hp) (a : Addr) : Prop := (∃ kvs, Rd H a (.dK kvs)) \/ ∃ kvs, Rd H a (.dT kvs)
section
variable {X : Cx} {pins : List (Addr × Obj)} {σ : St} {H : Hp} {s : Shared} {a : Addr} {y d : V} {u r : Value} {o : Option V} {A : Around} {E : Value -> Shared -> Prop}
end
def tDGet1 (td ty : TE) : TE := fun σ H Q => td σ H fun x H1 => ∃ a, x = .ref a /\ IsD H1 a /\ ty σ H1 fun y H2 => ∃ o, DGet H2 a y o /\ Q (o.getD .non) H2
def tDGet2 (td ty tx : TE) : TE := fun σ H Q => td σ H fun x H1 => ∃ a, x = .ref a /\ IsD H1 a /\ ty σ H1 fun y H2 => tx σ H2 fun z H3 => ∃ o, DGet H3 a y o /\ Q (o.getD z) H3
section
variable {X : Cx} {o e f : Expr} {apos cpos : Pos} {td ty tx : TE}
end
section
variable {X : Cx} {pins : List (Addr × Obj)} {σ : St} {H : Hp} {s : Shared} {a : Addr} {kvs : List (Key × V)} {A : Around} {E : Value -> Shared -> Prop}
end
section
variable {X : Cx} {pins : List (Addr × Obj)} {σ : St} {H : Hp} {s : Shared} {a : Addr} {y : V} {u : Value} {A : Around} {E : Value -> Shared -> Prop}
end
end L2
namespace L2
open PySem PySem.Spec PyProof.Rows
section
variable {X : Cx}
end
section
variable {κ : Type} [DecidableEq κ]
theorem zhz {kvs : List (κ × V)} {k : κ} {v : V} (h : valV kvs k = some v) : k ∈ kvs.map (·.1) := by
  have q : (kvs.any fun kv => decide (kv.1 = k)) = true := by
    rw [kr, h]
    all_goals rfl
  obtain ⟨p, hp, e⟩ := List.any_eq_true.mp q;exact Zp.mpr ⟨p, hp, of_decide_eq_true e⟩
end
end L2
namespace L2
open PySem PySem.Spec PyProof.Rows
def iw (ns : List (Str × NameKind)) (y n : Str) : Bool := match ns.lookup y with
  | some .free => y == n
  | some .local => false
  | some .cell => false
  | _ => true
def wp (ns : List (Str × NameKind)) : List Str -> List Str -> Bool
  | [], [] => true
  | y :: ys, n :: ms => iw ns y n && wp ns ys ms
  | _, _ => false
def u5 (ns : List (Str × NameKind)) (env : Env) : Bool := ns.all fun y => !(y.2 == .free) || (env.kindOf y.1 == some .cell || env.kindOf y.1 == some .free)
def jj (ns : List (Str × NameKind)) : Bool := ns.all fun y => !(y.2 == .cell) && (!(y.2 == .local) || ns.lookup y.1 == some .local)
theorem k7 {ns : List (Str × NameKind)} : ∀ {N2 N : List Str} {i : Nat} {y : Str}, wp ns N2 N = true -> N2[i]? = some y -> iw ns y y = true /\ (ns.lookup y = some .free -> N[i]? = some y)
  | [], [], _, _, _, e => by simp at e
  | y' :: ys, n :: ms, 0, y, h, e => by
    simp at e; subst e;unfold wp at h;rw [Bool.and_eq_true] at h;refine ⟨?_, fun hf => ?_⟩
    . have h1 := h.1
      unfold iw at h1 ⊢
      split at h1 <;> first | rfl | (exact absurd h1 Bool.false_ne_true) | (exact beq_self_eq_true _)
    . have h1 := h.1
      unfold iw at h1;rw [hf] at h1;have e : y' = n := eq_of_beq h1;simp [e]
  | y' :: ys, n :: ms, i + 1, y, h, e => by
    unfold wp at h;rw [Bool.and_eq_true] at h;obtain ⟨h1, h2⟩ := k7 (i := i) (y := y) h.2 (by simpa using e);exact ⟨h1, fun hf => by simpa using h2 hf⟩
  | [], _ :: _, _, _, h, _ => by cases h
  | _ :: _, [], _, _, h, _ => by cases h
theorem rb {ns : List (Str × NameKind)} {env : Env} (h : u5 ns env = true) {y : Str × NameKind} (hy : y ∈ ns) (hf : y.2 = .free) : env.kindOf y.1 = some .cell \/ env.kindOf y.1 = some .free := by
  have q := ZQ.mp h y hy;rw [hf] at q
  simpa using q
theorem dj {ns : List (Str × NameKind)} (h : jj ns = true) : ∀ y ∈ ns, y.2 ≠ .cell := fun y hy e => by
  have q := ZQ.mp h y hy;rw [e] at q;simp at q
theorem gb {ns : List (Str × NameKind)} (h : jj ns = true) : ∀ y ∈ ns, y.2 = .local -> ns.lookup y.1 = some .local := fun y hy e => by
  have q := ZQ.mp h y hy;rw [e] at q
  simpa using q
theorem vd {env : Env} {x : Str} : ∀ {ns : List (Str × NameKind)}, (ns.map fun (n, k) => if (k == NameKind.free && env.scope.kind == .function && env.kindOf n == some .cell) then (n, NameKind.cell) else (n, k)).lookup x =
    (ns.lookup x).map fun k => if (k == NameKind.free && env.scope.kind == .function && env.kindOf x == some .cell) then NameKind.cell else k
  | [] => rfl
  | (n, k) :: r => by
    have ih := @vd env x r
    show List.lookup x ((if (k == NameKind.free && env.scope.kind == .function && env.kindOf n == some .cell) = true then (n, NameKind.cell) else (n, k)) :: _) = _
    cases hx : x == n with
    | true =>
      have e : x = n := eq_of_beq hx;subst e;simp only [ZF, beq_self_eq_true]
      by_cases hc : (k == NameKind.free && env.scope.kind == .function && env.kindOf x == some .cell) = true
      . rw [if_pos hc]; simp only [ZF, beq_self_eq_true, Yk]; rw [if_pos hc]
      . rw [if_neg hc]; simp only [ZF, beq_self_eq_true, Yk]; rw [if_neg hc]
    | false =>
      simp only [ZF, hx]
      by_cases hc : (k == NameKind.free && env.scope.kind == .function && env.kindOf n == some .cell) = true
      . rw [if_pos hc]; simp only [ZF, hx]; exact ih
      . rw [if_neg hc]; simp only [ZF, hx]; exact ih
theorem kd {scope : Scope} {env : Env} (h : ∀ y ∈ scope.names, y.2 = .free -> ∃ c, env.cells.lookup y.1 = some c) :
    ∃ cl, closureFor scope env = pure cl /\ (∀ x c, cl.lookup x = some c -> env.cells.lookup x = some c) /\ (∀ y ∈ scope.names, y.2 = .free -> ∃ c, cl.lookup y.1 = some c) := by
  have all : ∀ (ns : List (Str × NameKind)) (cs : List (Str × Addr)), (∀ y ∈ ns, y.2 = .free -> ∃ c, env.cells.lookup y.1 = some c) -> (∀ x c, cs.lookup x = some c -> env.cells.lookup x = some c) ->
      ∃ cl, (forIn ns cs fun x r => (if (x.2 == NameKind.free) = true then do let a <- cellOf env x.1; pure (ForInStep.yield ((x.1, a) :: r)) else pure (ForInStep.yield r) : Sem (ForInStep (List (Str × Addr))))) = pure cl /\
        (∀ x c, cl.lookup x = some c -> env.cells.lookup x = some c) /\ (∀ x, (cs.lookup x).isSome = true -> (cl.lookup x).isSome = true) /\ (∀ y ∈ ns, y.2 = .free -> ∃ c, cl.lookup y.1 = some c) := by
    intro ns
    induction ns with
    | nil => intro cs _ hc; exact ⟨cs, rfl, hc, fun _ z => z, fun _ z => nomatch z⟩
    | cons y r ih =>
      intro cs hh hc;have hr : ∀ z ∈ r, z.2 = .free -> ∃ c, env.cells.lookup z.1 = some c := fun z hz => hh z (Zv _ hz)
      by_cases hf : y.2 = .free
      . obtain ⟨c, ec⟩ := hh y ZA hf
        have hc' : ∀ x d, ((y.1, c) :: cs).lookup x = some d -> env.cells.lookup x = some d := fun x d e => by
          rw [ZF] at e
          cases hx : x == y.1 with
          | true =>
            rw [hx] at e;have e2 : x = y.1 := eq_of_beq hx;cases e;rw [e2]; exact ec
          | false =>
            rw [hx] at e;exact hc x d e
        obtain ⟨cl, e1, e2, e3, e4⟩ := ih ((y.1, c) :: cs) hr hc';refine ⟨cl, ?_, e2, fun x hx => e3 x ?_, fun z hz hzf => ?_⟩
        . rw [List.forIn_cons]
          have ek : (y.2 == NameKind.free) = true := by rw [hf]; rfl
          simp only [ek, if_true, cellOf, ec, pure_bind];exact e1
        . rw [ZF]; split <;> first | rfl | exact hx
        . rcases ZK.mp hz with rfl | hz
          . have := e3 z.1 (by rw [ZF, beq_self_eq_true]; rfl)
            exact Ys.mp this
          . exact e4 z hz hzf
      . obtain ⟨cl, e1, e2, e3, e4⟩ := ih cs hr hc
        refine ⟨cl, ?_, e2, e3, fun z hz hzf => ?_⟩
        . rw [List.forIn_cons]
          have ek : (y.2 == NameKind.free) = false := by simpa using hf
          simp only [ek, Bool.false_eq_true, if_false, pure_bind];exact e1
        . rcases ZK.mp hz with rfl | hz
          . exact absurd hzf hf
          . exact e4 z hz hzf
  obtain ⟨cl, e1, e2, _, e4⟩ := all scope.names [] h (fun _ _ z => by cases z);refine ⟨cl, ?_, e2, e4⟩;unfold closureFor
  first
    | (rw [show (forIn scope.names ([] : List (Str × Addr)) _ : Sem (List (Str × Addr))) = pure cl from e1]; rfl)
    | (simp only [bind_pure]; exact e1)
    | (show (forIn scope.names [] _ >>= _) = _; exact (congrArg (fun t => t >>= fun cs => pure cs) e1))
structure Dyn where
  cl : List (Str × Addr)
  C : Addr
  s₀ : Shared
  H₀ : Hp
  fp : List Addr
abbrev yw (X : Cx) (scope : Scope) (N' : List Str) (d : Dyn) : Cx where
  prog := X.prog
  w := X.w
  K := X.K
  mg := X.mg
  base := X.base
  A := X.A
  N := N'
  s₀ := d.s₀
  H₀ := d.H₀
  env := compEnvC scope d.cl d.C X.env
  outer := X.stack
  stack := X.stack
  ex := d.fp
  fn := fun _ => false
  calm := true
  pn := []
  xe := fun _ _ => False
theorem gf {prog : Program} {w : World} {A : Around} {R : Result -> Shared -> Prop} {s : Shared} {elt target iter : Expr} {ifs : List Expr} {scope : Scope} {pos : Pos} {it acc : Value} {env : Env} (I : Nat -> Shared -> Prop)
    (turn : ∀ n s, I n s -> wpAny (model prog w) A (pyNext it) (fun r s₁ => match r with
      | none => R (.ok .next) s₁
      | some v => wpAny (model prog w) A (letOwnedTupleGo target it v) (fun _ s₁' => wpAny (model prog w) A (assign target env v) (fun _ s₂ =>
          wpAny (model prog w) A (forIn ifs true fun c r => if r = true then do let ok <- isTrue c env (eval c env); pure (ForInStep.yield ok) else pure (ForInStep.yield r)) (fun ok s₃ =>
            if ok = true then wpAny (model prog w) A (eval elt env) (fun x s₄ =>
              wpAny (model prog w) A (call (.builtin "list.append") [acc, x]) (fun _ s₅ => ∃ m, m < n /\ I m s₅) (fun _ _ => False) s₄) (fun _ _ => False) s₃
            else ∃ m, m < n /\ I m s₃) (fun _ _ => False) s₂) (fun _ _ => False) s₁') (fun _ _ => False) s₁) (fun _ _ => False) s)
    (n : Nat) (h : I n s) :
    codeAny (model prog w) A (.compLoop (.ListComp elt [⟨target, iter, ifs, 0⟩] scope pos) 0 it acc env) R s := by
  refine codeAny_loop rfl I (fun n s hI => ?_) n h
  show wpAny _ A ((compTurn (.ListComp elt [⟨target, iter, ifs, 0⟩] scope pos) 0 it acc env).onRaise (fun x => do noteFrame x env; theTreesLotGoes x)) _ _ s
  refine wpAny_noted ?_;rw [compTurn_list];refine wpAny_bind (wpAny_standAt (wpAny_bind (wpAny_mono (turn n s hI) (fun r s₁ h₁ => ?_) fun _ _ f => f.elim)))
  cases r with
  | none => exact wpAny_pure h₁
  | some v =>
    refine wpAny_bind (wpAny_mono h₁ (fun _ s₁' h₁' => ?_) fun _ _ f => f.elim);refine wpAny_bind (wpAny_mono h₁' (fun _ s₂ h₂ => wpAny_bind (wpAny_mono h₂ (fun ok s₃ h₃ => ?_) fun _ _ f => f.elim)) fun _ _ f => f.elim)
    cases ok with
    | false => exact wpAny_pure ⟨rfl, h₃⟩
    | true =>
      exact wpAny_bind (wpAny_bind (wpAny_mono h₃ (fun x s₄ h₄ => wpAny_bind (wpAny_mono h₄ (fun _ s₅ h₅ => wpAny_pure (wpAny_pure ⟨rfl, h₅⟩)) fun _ _ f => f.elim)) fun _ _ f => f.elim))
def PTs (X : Cx) (ifs : List Expr) (t : TT) : Prop :=
  ∀ (pins : List (Addr × Obj)) (s : Shared) (σ : St) (H : Hp) (Q : Bool -> Hp -> Prop), Inv X pins σ H s -> t σ H Q ->
    wpAny (model X.prog X.w) X.A (forIn ifs true fun c r => if r = true then do let ok <- isTrue c X.env (eval c X.env); pure (ForInStep.yield ok) else pure (ForInStep.yield r)) (TP X pins σ Q) X.xe s
def tAll : TT := fun _ H Q => Q true H
theorem zy {X : Cx} : PTs X [] tAll := fun _ _ _ H _ I h => wpAny_tests_nil ⟨H, I, h⟩
def sy (J : It) (σ : St) (k : Nat) (g : TG) (tt : TT) (te : TE) (H1 : Hp) (Fin : List V -> Hp -> Prop) : Prop :=
  ∃ W : Nat -> Nat -> List V -> Hp -> Prop, (∃ m, W 0 m [] H1) /\ ∀ i m ys H, W i m ys H -> ys.length <= sizeLine /\
    ((J.stop i H /\ Fin ys H) \/ (J.go i H /\ ∃ N : List V -> Hp -> Prop, (∀ ys' H', N ys' H' -> ∃ m', m' < m /\ W (i + 1) m' ys' H') /\ ∀ x H', J.yld i H x H' -> g x (List.replicate k none ++ σ) H' fun σ2 H2 => σ2.drop k = σ /\
      tt σ2 H2 fun b H3 => if b = true then te σ2 H3 fun v H4 => N (ys ++ [v]) H4 else N ys H3))
abbrev lobj (its : List Value) : Obj := { cls := .type "list", data := .seq its.toArray its.length }
section
variable {X : Cx} {pins : List (Addr × Obj)} {σ : St} {H2 : Hp} {s₂ : Shared} {scope : Scope} {ts N2 : List Str} {cl : List (Str × Addr)} {C D : Addr} {fp : List Addr}
theorem zh5 (I2 : Inv X pins σ H2 s₂) (hc : X.calm = true) (f2 : ∀ b ∈ fp, FpOk X pins H2 b /\ b < s₂.heap.objs.size) (hkind : scope.kind = .function) (hown : jj scope.names = true) (hfree : u5 scope.names X.env = true)
    (hcl1 : ∀ x c, cl.lookup x = some c -> X.env.cells.lookup x = some c) (hcl2 : ∀ y ∈ scope.names, y.2 = .free -> ∃ c, cl.lookup y.1 = some c) (hC : s₂.heap.objs.size <= C) :
    (yw X scope (ts ++ N2) ⟨cl, C, s₂, H2, fp⟩).Ok := by
  refine ⟨I2.ok.mod, hkind, I2.ok.glob, I2.ok.blt, hC, fun x y c e1 e2 => I2.ok.inj x y c (hcl1 _ _ e1) (hcl1 _ _ e2), fun x hx => ?_, fun x c z _ => absurd (show false = true from z) Bool.false_ne_true, fun _ => I2.ok.hd hc, I2.ok.frames, .inl rfl, fun b hb => ?_, I2.bs, Zd I2.ok.bsz I2.sz, fun b o e hb => ?_, fun b hb hfs => ?_, I2.stack, I2.stkFree⟩
  . have hx' : (relabel scope X.env).names.lookup x = some .cell \/ (relabel scope X.env).names.lookup x = some .free := hx
    have e0 : (relabel scope X.env).names.lookup x = _ := vd (env := X.env) (x := x) (ns := scope.names);rw [e0] at hx'
    cases q : scope.names.lookup x with
    | none => rw [q] at hx'; simp at hx'
    | some k =>
      rw [q] at hx';simp only [Yk, Option.some.injEq] at hx';have hm : (x, k) ∈ scope.names := PySem.mem_of_lookup q
      have hk : k = .free := by
        have nc := dj hown _ hm
        split at hx'
        . rename_i hcond
          simp only [Bool.and_eq_true] at hcond;exact eq_of_beq hcond.1.1
        . rcases hx' with z | z
          . exact absurd z nc
          . exact z
      exact hcl2 _ hm hk
  . obtain ⟨⟨f0, f1, f3, f4, f5, f6⟩, hlt⟩ := f2 b hb
    exact ⟨Zs (Zh hlt hC), fun x c e => f5 x c (hcl1 x c e)⟩
  . obtain ⟨⟨f0, f1, f3, f4, f5, f6⟩, hlt⟩ := f2 b hb
    rcases f4 with z | z
    . exact I2.ok.noex b o e z
    . exact absurd (Zh (Heap.lt_size e) (Zd I2.ok.bsz z)) (ZJ _)
  . obtain ⟨⟨f0, f1, f3, f4, f5, f6⟩, hlt⟩ := f2 b hb
    rcases ZK.mp (I2.stkSub b hfs) with z | z
    . exact f1 z
    . exact f3 z
theorem zei (I2 : Inv X pins σ H2 s₂) (hc : X.calm = true) (f2 : ∀ b ∈ fp, FpOk X pins H2 b /\ b < s₂.heap.objs.size) (hkind : scope.kind = .function) (hown : jj scope.names = true) (hfree : u5 scope.names X.env = true) (hout : wp scope.names N2 X.N = true)
    (hcl1 : ∀ x c, cl.lookup x = some c -> X.env.cells.lookup x = some c) (hcl2 : ∀ y ∈ scope.names, y.2 = .free -> ∃ c, cl.lookup y.1 = some c) (hC : s₂.heap.objs.size <= C) (hDC : D ≠ C) (hD : s₂.heap.objs.size <= D)
    {h₁ : Heap} {tk : Nat} {m : Str -> Option Value} (hn : h₁.Ns C m) (old : ∀ b o, s₂.heap.get? b = some o -> h₁.get? b = some o) (hacc : h₁.get? D = some (lobj [])) :
    Inv (yw X scope (ts ++ N2) ⟨cl, C, s₂, H2, fp⟩) [(D, lobj [])] (List.replicate ts.length none ++ σ) H2 { s₂ with heap := h₁, toks := tk } := by
  have ok := zh5 (ts := ts) (N2 := N2) I2 hc f2 hkind hown hfree hcl1 hcl2 hC
  have hlN : ∀ {a b : List Str}, wp scope.names a b = true -> a.length = b.length := by
    intro a
    induction a with
    | nil => intro b h; cases b with | nil => rfl | cons _ _ => cases h
    | cons y ys ih =>
      intro b h
      cases b with
      | nil => cases h
      | cons n ms =>
        unfold wp at h;rw [Bool.and_eq_true] at h;rw [ZL, ZL, ih h.2]
  refine ⟨ok, rfl, I2.bare, Un.kept old, ⟨m, hn, fun i x v e1 e2 e3 => ?_⟩, fun x c e => ?_, ?_, fun x c e => I2.freeC x c (hcl1 x c e), fun p hp => ?_, I2.hok.kept old, ?_⟩
  . by_cases hi : i < ts.length
    . rw [Zg (by simpa using hi), Yc] at e2
      split at e2 <;> cases e2
    . have hi' : ts.length <= i := ZD.mp hi
      rw [Zf (by simpa using hi')] at e2;rw [ZI] at e2;have e1' : (ts ++ N2)[i]? = some x := e1;rw [Zf hi'] at e1';obtain ⟨k1, k2⟩ := k7 hout e1';have e0 : (relabel scope X.env).names.lookup x = _ := vd (env := X.env) (x := x) (ns := scope.names);have e3' : (relabel scope X.env).names.lookup x = some .local \/ (relabel scope X.env).names.lookup x = some .cell \/ (relabel scope X.env).names.lookup x = some .free := e3;rw [e0] at e3'
      cases q : scope.names.lookup x with
      | none => rw [q] at e3'; simp at e3'
      | some k =>
        have hm : (x, k) ∈ scope.names := PySem.mem_of_lookup q
        have hk : k = .free := by
          unfold iw at k1;rw [q] at k1 e3'
          cases k with
          | free => rfl
          | «local» => cases k1
          | cell => cases k1
          | _ => exfalso; revert e3'; simp
        subst hk;obtain ⟨mo, hmo, hl⟩ := I2.loc;have hkv := rb hfree hm rfl;have vis : Vis X.env.scope x := hkv.elim (fun z => .inr (.inl z)) fun z => .inr (.inr z)
        obtain ⟨u, r, l⟩ := hl _ x v (k2 q) e2 vis;refine ⟨u, r, .inr ⟨?_, ?_⟩⟩
        . show (relabel scope X.env).names.lookup x = some .cell \/ (relabel scope X.env).names.lookup x = some .free
          rw [e0, q];simp only [Yk, Option.some.injEq]
          split
          . exact .inl rfl
          . exact .inr rfl
        . rcases l with ⟨kl, _⟩ | ⟨_, c, ec, z⟩
          . exfalso
            rcases hkv with z | z <;> (rw [kl] at z; cases z)
          . obtain ⟨c', ec'⟩ := hcl2 _ hm rfl
            have := hcl1 _ _ ec';rw [ec] at this;cases this;obtain ⟨o, ho, hd⟩ := z;exact ⟨c, ec', o, old _ _ ho, hd⟩
  . obtain ⟨v, o, ho, hd⟩ := I2.cell x c (hcl1 x c e)
    exact ⟨v, o, old _ _ ho, hd⟩
  . exact I2.hok.fresh hC
  . have e : p = (D, lobj []) := by simpa using hp
    subst e;refine ⟨hacc, I2.hok.fresh hD, hDC, fun z => ?_, fun v z => by cases z⟩
    rcases ZK.mp (I2.stkSub D z) with z | z
    . exact absurd (Zh I2.lt (by rw [<- z]; exact hD)) (ZJ _)
    . exact I2.nofs hD z
  . show (List.replicate ts.length none ++ σ).length = (ts ++ N2).length
    rw [Zo, Zo, ZI, I2.len, hlN hout]
theorem zhl (I2 : Inv X pins σ H2 s₂) (f2 : ∀ b ∈ fp, FpOk X pins H2 b) (hD : s₂.heap.objs.size <= D) {σ' : St} {H' : Hp} {s' : Shared} {its : List Value} {ys : List V} {pl : List (Addr × Obj)}
    (J : Inv (yw X scope (ts ++ N2) ⟨cl, C, s₂, H2, fp⟩) pl σ' H' s') (hp : s'.heap.get? D = some (lobj its)) (hn : H' D = none) (hv : Vals ys its) (hz : ys.length <= sizeLine) : Inv X pins σ (upd H' D (.lst ys)) s' := by
  have neD : ∀ b o, s₂.heap.get? b = some o -> b ≠ D := fun b o e => Zs (Zh (Heap.lt_size e) hD)
  have neH : ∀ b o, H2 b = some o -> b ≠ D := fun b o e => Zs (Zh (I2.hok.lt e) hD)
  have u := J.base
  have un : Un (frs X.stack) fp H2 (upd H' D (.lst ys)) s₂.heap s'.heap :=
    ⟨u.keep, u.slot, fun b o e n hx => by rw [zr (neD b o e)]; exact u.free b o e n hx, u.there, fun b xs e => by rw [zr (neH b _ e)]; exact u.tups b xs e, fun b o v e => by rw [zr (neH b _ e)]; exact u.frzs b o v e,
      fun b ps e => by rw [zr (neH b _ e)]; exact u.tbls b ps e⟩
  have hok : HOk X.prog X.w (upd H' D (.lst ys)) s'.heap := fun b o e => by
    by_cases hb : b = D
    . subst hb
      rw [zf] at e;cases e;exact ⟨hz, its, its.length, hv, hp⟩
    . rw [zr hb] at e
      exact (J.hok b o e).stay (fun c v _ q => q) (fun c q => by rw [zr (y0 q hn)]; exact q) fun c xs q => by rw [zr (y0 q hn)]; exact q
  exact I2.call' (ch := fp) J.os un hok J.bare fun b hb => by
    obtain ⟨f0, f1, f3, f4, f5, f6⟩ := f2 b hb;exact ⟨f4, f1, f5, f6⟩
theorem dg {E : Value -> Shared -> Prop} {tg elt iter : Expr} {ifs : List Expr} {pos : Pos} {it : Addr} {tn : Nat -> Heap -> Prop} {J : It} {g : Dyn -> TG} {tt : Dyn -> TT} {te : Dyn -> TE} {RR : Value -> Addr -> Result -> Shared -> Prop} {Fin : List V -> Hp -> Prop}
    (I2 : Inv X pins σ H2 s₂) (hc : X.calm = true) (T : Turn X.prog X.w X.K tg J fp it tn) (st : tn 0 s₂.heap) (f2 : ∀ b ∈ fp, FpOk X pins H2 b) (hkind : scope.kind = .function) (hown : jj scope.names = true) (hfree : u5 scope.names X.env = true) (hout : wp scope.names N2 X.N = true)
    (hcl1 : ∀ x c, cl.lookup x = some c -> X.env.cells.lookup x = some c) (hcl2 : ∀ y ∈ scope.names, y.2 = .free -> ∃ c, cl.lookup y.1 = some c)
    (hg : ∀ d, PG (yw X scope (ts ++ N2) d) tg (g d)) (ht : ∀ d, PTs (yw X scope (ts ++ N2) d) ifs (tt d)) (he : ∀ d, PE (yw X scope (ts ++ N2) d) elt (te d))
    (hW : ∀ d, sy J σ ts.length (g d) (tt d) (te d) H2 Fin)
    (hRR : ∀ D C s' H' ys, s₂.heap.objs.size <= C -> C ≠ D -> Inv X pins σ (upd H' D (.lst ys)) s' -> H' D = none -> H' C = none -> (∃ m, s'.heap.Ns C m) -> ys.length <= sizeLine -> Fin ys H' -> RR (.ref D) C (.ok .next) s') :
    wpAny (model X.prog X.w) X.A (newList []) (fun acc s₃ => wpAny (model X.prog X.w) X.A (newFunctionEnv scope X.env.globals cl [] X.env.qual none .none (some X.env)) (fun cenv s₄ =>
      codeAny (model X.prog X.w) X.A (.compStart (.ListComp elt [⟨tg, iter, ifs, 0⟩] scope pos) 0 (.ref it) acc { cenv with scope := relabel scope X.env }) (RR acc cenv.locals) s₄) E s₃) E s₂ := by
  refine wpAny_newObj_type (wpAny_newFunctionEnv (dj hown) (by intro y hy; simp at hy) (fun h₁ hns₁ hsb₁ => ?_) hkind);dsimp only at hns₁ hsb₁ ⊢;generalize hH2 : s₂.heap.push { cls := .type "list", dict := none, data := .seq ([] : List Value).toArray } = HP at hns₁ hsb₁ ⊢;have hC : HP.objs.size = s₂.heap.objs.size + 1 := by rw [<- hH2, Heap.size_push]
  have hDC : s₂.heap.objs.size ≠ HP.objs.size := by rw [hC]; exact Zs (Yz _)
  have hCle : s₂.heap.objs.size <= HP.objs.size := by rw [hC]; exact Yx _
  have below : ∀ b, b < s₂.heap.objs.size -> b ≠ HP.objs.size /\ b ≠ s₂.heap.objs.size := fun b hb => ⟨by rw [hC]; exact Zs (Yg hb), Zs hb⟩
  have old : ∀ b o, s₂.heap.get? b = some o -> h₁.get? b = some o := fun b o e => hsb₁.extBut b o (below b (Heap.lt_size e)).1 (Heap.get?_push_of_some _ (hH2 ▸ Heap.get?_push_of_some _ e))
  have hacc : h₁.get? s₂.heap.objs.size = some (lobj []) := hsb₁.extBut _ _ hDC (Heap.get?_push_of_some _ (hH2 ▸ Heap.get?_push_size _ rfl))
  have flt : ∀ b ∈ fp, b < s₂.heap.objs.size := fun b hb => by
    obtain ⟨o, e, _⟩ := T.obj _ _ st b hb;exact Heap.lt_size e
  generalize hDD : s₂.heap.objs.size = D at *;generalize hCC : HP.objs.size = C at *;have hDle : s₂.heap.objs.size <= D := Nat.le_of_eq hDD;have I4 := fun (tk : Nat) => zei (ts := ts) (D := D) (C := C) (tk := tk) I2 hc (fun b hb => ⟨f2 b hb, by rw [hDD]; exact flt b hb⟩) hkind hown hfree hout hcl1 hcl2 (by rw [hDD]; exact hCle) hDC hDle hns₁ old hacc
  generalize hd : (⟨cl, C, s₂, H2, fp⟩ : Dyn) = d at *;obtain ⟨W, ⟨m0, w0⟩, turn⟩ := hW d
  have Xs : ∀ {pl : List (Addr × Obj)} {H' : Hp}, (∀ b ∈ fp, H' b = none) -> (∀ p ∈ pl, p.1 = D) -> ∀ b ∈ fp, FpOk (yw X scope (ts ++ N2) d) pl H' b := fun {pl H'} hn hp b hb => by
    subst hd;obtain ⟨f0, f1, f3, f4, f5, f6⟩ := f2 b hb;refine ⟨hn b hb, (below b (flt b hb)).1, fun z => ?_, .inl hb, fun x c e => f5 x c (hcl1 x c e), fun p hp' => ?_⟩
    . rcases ZK.mp (I2.stkSub b z) with z | z
      . exact f1 z
      . exact f3 z
    . rw [hp p (by simpa using hp')]
      exact Ne.symm (below b (flt b hb)).2
  have loop : ∀ s₃ : Shared, s₃ = { s₂ with heap := h₁, toks := s₂.toks + ([] : List (Str × Value)).length } ->
      codeAny (model X.prog X.w) X.A (.compLoop (.ListComp elt [⟨tg, iter, ifs, 0⟩] scope pos) 0 (.ref it) (.ref D) (compEnvC scope cl C X.env)) (RR (.ref D) C) s₃ := by
    rintro s₃ rfl
    refine gf (fun n s' => ∃ i ys H' its, Inv (yw X scope (ts ++ N2) d) [(D, lobj its)] (List.replicate ts.length none ++ σ) H' s' /\ tn i s'.heap /\ (∀ b ∈ fp, H' b = none) /\ Vals ys its /\ W i n ys H') ?_ m0
      ⟨0, [], H2, [], I4 _, T.keep _ _ _ st fun b _ o e => old b o e, fun b hb => (f2 b hb).1, .nil, w0⟩
    rintro n s3 ⟨i, ys, H3, its, I3, st3, fr3, hv3, w3⟩
    obtain ⟨hlen, tr⟩ := turn i n ys H3 w3
    have one : ∀ p ∈ [(D, lobj its)], p.1 = D := fun p hp => by
      have e : p = (D, lobj its) := by simpa using hp
      rw [e]
    have eenv : (yw X scope (ts ++ N2) d).env = compEnvC scope cl C X.env := by subst hd; rfl
    rcases tr with ⟨stop, fin⟩ | ⟨go, N, hN, step⟩
    . refine thn (T.done (yw X scope (ts ++ N2) d) rfl rfl rfl rfl i _ s3 _ H3 (fun _ _ => False) I3 (Xs fr3 one) st3 stop) fun r s4 ⟨hr, J4⟩ => ?_
      subst hr
      show RR (.ref D) C (.ok .next) s4
      obtain ⟨pe, pn, _⟩ := J4.pin (D, lobj its) (by simp);have fC : H3 C = none := by have := J4.free; rw [eenv] at this; exact this
      have nC : ∃ m, s4.heap.Ns C m := by
        obtain ⟨m, z, _⟩ := J4.loc;rw [eenv] at z;exact ⟨m, z⟩
      subst hd;exact hRR D C s4 H3 ys hCle (Ne.symm hDC) (zhl I2 f2 hDle J4 pe pn hv3 hlen) pn fC nC hlen fin
    . refine thn (T.item (yw X scope (ts ++ N2) d) rfl rfl rfl rfl i _ s3 _ H3 (fun _ _ => False) I3 (Xs fr3 one) st3 go) fun r s4 ⟨u, hr, h4⟩ => ?_
      subst hr;refine thn h4 fun _ s5 ⟨x, H5, I5, r5, y5, st5, fr5⟩ => ?_
      have I5' := I5.pinned (Xs fr5 one) (T.obj _ _ st5);rw [<- eenv];refine thn (hg d _ s5 _ H5 x u _ I5' r5 (step x H5 y5)) fun _ s6 ⟨σ6, H6, I6, hdrop, q6⟩ => ?_
      have back : ∀ {ys' : List V} {its' : List Value} {H' : Hp} {s' : Shared} {pl : List (Addr × Obj)}, Inv (yw X scope (ts ++ N2) d) ([(D, lobj its')] ++ pl) σ6 H' s' -> Inv (yw X scope (ts ++ N2) d) [(D, lobj its')] (List.replicate ts.length none ++ σ) H' s' := fun {ys' its' H' s' pl} I' => by
        have hl : σ6.length = (ts ++ N2).length := I'.len;refine (I'.pins_of (pins' := [(D, lobj its')]) fun p hp => I'.pin p (Zu _ (ZV _ hp))).weak ?_ ?_
        . rw [hl]; exact I3.len
        . intro j v e
          by_cases hj : j < ts.length
          . rw [Zg (by simpa using hj), Yc] at e
            split at e <;> cases e
          . have hj' : ts.length <= j := ZD.mp hj
            rw [Zf (by simpa using hj'), ZI, <- hdrop, Yu] at e;rw [show ts.length + (j - ts.length) = j by omega] at e;exact e
      refine thn (ht d _ s6 σ6 H6 _ I6 q6) fun b s7 ⟨H7, I7, q7⟩ => ?_
      have pinsOf : ∀ {its' : List Value} {H' : Hp} {s' : Shared}, Inv (yw X scope (ts ++ N2) d) ([(D, lobj its')] ++ ll fp s5.heap) σ6 H' s' -> (∀ b ∈ fp, ∀ o, s5.heap.get? b = some o -> s'.heap.get? b = some o) /\ ∀ b ∈ fp, H' b = none := fun {its' H' s'} I' => by
        refine ⟨fun b hb o e => (I'.pin (b, o) (Zu _ (Zu _ (vj hb e)))).1, fun b hb => ?_⟩;obtain ⟨o, e, _⟩ := T.obj _ _ st5 b hb;exact (I'.pin (b, o) (Zu _ (Zu _ (vj hb e)))).2.1
      cases b with
      | false =>
        have q7' : N ys H7 := by simpa using q7
        obtain ⟨m', hm, w7⟩ := hN _ _ q7';obtain ⟨k1, k2⟩ := pinsOf I7
        show ∃ m, m < n /\ _
        exact ⟨m', hm, i + 1, ys, H7, its, back (ys' := ys) I7, T.keep _ _ _ st5 k1, k2, hv3, w7⟩
      | true =>
        have q7' : te d σ6 H7 fun v H4 => N (ys ++ [v]) H4 := by simpa using q7
        show wpAny _ _ _ _ _ _
        refine thn (he d _ s7 σ6 H7 _ I7 q7') fun y s8 ⟨v, H8, I8, r8, n8⟩ => ?_
        obtain ⟨m', hm, w8⟩ := hN _ _ n8;obtain ⟨k1, k2⟩ := pinsOf I8;obtain ⟨pe, pn, pC, pf, pd⟩ := I8.pin (D, lobj its) (by simp);have hsz : its.toArray.size <= sizeLine := by rw [Zr, <- hv3.length]; exact hlen
        refine append_at (hsz := hsz) pe fun h9 sb9 e9 => ?_
        have J8 : Inv (yw X scope (ts ++ N2) d) [] σ6 H8 s8 := I8.pins_of fun p hp => nomatch hp
        have hDs : (yw X scope (ts ++ N2) d).s₀.heap.objs.size <= D := by subst hd; exact hDle
        have J9 : Inv (yw X scope (ts ++ N2) d) [] σ6 H8 { s8 with heap := h9 } := J8.turned (t' := s8.toks) (it := D) (fun b o hb e => sb9.extBut b o hb e) pn pC (.inr hDs)
          (fun x c e => by
            obtain ⟨v', z⟩ := I3.cell x c e;subst hd;obtain ⟨v2, z2⟩ := I2.cell x c (hcl1 x c e)
            exact Zs (Zh z2.lt hDle)) (fun p hp => nomatch hp)
        have e9' : h9.get? D = some (lobj (its ++ [y])) := by
          rw [e9]
          show some ({ cls := .type "list", data := .seq (its.toArray.push y) (its.length + 1) } : Obj) = some { cls := .type "list", data := .seq (its ++ [y]).toArray (its ++ [y]).length }
          rw [Zo, Yo, List.push_toArray]
        have J9' : Inv (yw X scope (ts ++ N2) d) ([(D, lobj (its ++ [y]))] ++ []) σ6 H8 { s8 with heap := h9 } := J9.pins_of fun p hp => by
          have e : p = (D, lobj (its ++ [y])) := by simpa using hp
          subst e;exact ⟨e9', pn, pC, pf, fun v z => by cases z⟩
        refine ⟨m', hm, i + 1, ys ++ [v], H8, its ++ [y], back (ys' := ys) J9', ?_, k2, hv3.append (.cons r8 .nil), w8⟩;exact T.keep _ _ _ st5 fun b hb o e => sb9.extBut b o (below b (flt b hb)).2 (k1 b hb o e)
  exact codeAny_compStart_list (loop _ rfl) (T.self _ 0 _ _ _ (T.keep _ _ _ st fun b _ o e => old b o e) (loop _ rfl))
end
def al (k : Nat) (wi : TI) (g : Dyn -> TG) (tt : Dyn -> TT) (te : Dyn -> TE) : TE := fun σ H Q => wi σ H fun J H1 => ∀ d : Dyn, sy J σ k (g d) (tt d) (te d) H1 fun ys H' => ∀ l, H' l = none -> Q (.ref l) (upd H' l (.lst ys))
theorem z0 {X : Cx} {tg elt iter : Expr} {ifs : List Expr} {scope : Scope} {pos : Pos} (ts N2 : List Str) {wi : TI} {g : Dyn -> TG} {tt : Dyn -> TT} {te : Dyn -> TE} (hc : X.calm = true) (hi : PI X tg iter wi)
    (hg : ∀ d, PG (yw X scope (ts ++ N2) d) tg (g d)) (ht : ∀ d, PTs (yw X scope (ts ++ N2) d) ifs (tt d)) (he : ∀ d, PE (yw X scope (ts ++ N2) d) elt (te d))
    (hkind : scope.kind = .function) (hown : jj scope.names = true) (hfree : u5 scope.names X.env = true) (hout : wp scope.names N2 X.N = true)
    (hs : ∀ x, foldedSetIterable iter X.env x = pure x := by intro _; rfl) : PE X (.ListComp elt [⟨tg, iter, ifs, 0⟩] scope pos) (al ts.length wi g tt te) := by
  intro pins s σ H Q I h;obtain ⟨cl, hclos, hcl1, hcl2⟩ := kd (scope := scope) (env := X.env) fun y hy hf => I.ok.has y.1 (rb hfree hy hf)
  rw [eval_ListComp];refine wpAny_comprehension_free (use := none) rfl hs hclos hkind (gb hown) (thn (hi pins s σ H _ I h) fun v s1 h1 => thn h1 fun itv s2 h2 => ?_);obtain ⟨it, fp, tn, J, H2, e, I2, T, st2, f2, hW⟩ := h2;subst e;refine dg (RR := fun acc C => compPost (model X.prog X.w) X.A X.xe none (EP X pins σ Q) acc C) I2 hc T st2 f2 hkind hown hfree hout hcl1 hcl2 hg ht he hW ?_;intro D C s' H' ys hC hCD I' hD hCn hNs hl fin;obtain ⟨m, hm⟩ := hNs;refine ⟨m, hm, fun h' sb => ?_⟩
  have I'' : Inv X pins σ (upd H' D (.lst ys)) { s' with heap := h' } := by
    refine I'.turned (t' := s'.toks) (it := C) (fun b o hb e => sb.extBut b o hb e) (by rw [zr hCD]; exact hCn) (ZR (Zh I2.lt hC)) (.inr (Zd I2.sz hC)) (fun x c e => ?_) fun p hp => ?_
    . obtain ⟨v, q⟩ := I2.cell x c e
      exact Zs (Zh q.lt hC)
    . exact Zs (Zh (Heap.lt_size (I2.pin p hp).1) hC)
  exact ⟨.ref D, _, I'', rfl, fin D hD⟩
def tSetC (i : Nat) (te : TE) : TS := fun D σ H => te σ H fun x H1 => D.nx (σ.set i (some x)) H1
theorem re {X : Cx} {tg elt iter : Expr} {ifs : List Expr} {scope : Scope} {pos spos py : Pos} {i : Nat} {y : Str} (ts N2 : List Str) {wi : TI} {g : Dyn -> TG} {tt : Dyn -> TT} {te : Dyn -> TE} (hN : X.N.Nodup) (hi' : X.N[i]? = some y) (hy : X.env.scope.names.lookup y = some .local) (hc : X.calm = true) (hi : PI X tg iter wi)
    (hg : ∀ d, PG (yw X scope (ts ++ N2) d) tg (g d)) (ht : ∀ d, PTs (yw X scope (ts ++ N2) d) ifs (tt d)) (he : ∀ d, PE (yw X scope (ts ++ N2) d) elt (te d))
    (hkind : scope.kind = .function) (hown : jj scope.names = true) (hfree : u5 scope.names X.env = true) (hout : wp scope.names N2 X.N = true)
    (hsw : swapsWith (.ListComp elt [⟨tg, iter, ifs, 0⟩] scope pos) (some (.Name y py)) spos.line X.env = pure true)
    (hs : ∀ x, foldedSetIterable iter X.env x = pure x := by intro _; rfl) : PS X (.Assign [.Name y py] (.ListComp elt [⟨tg, iter, ifs, 0⟩] scope pos) spos) (tSetC i (al ts.length wi g tt te)) := by
  intro pins s σ H D0 I h;obtain ⟨cl, hclos, hcl1, hcl2⟩ := kd (scope := scope) (env := X.env) fun z hz hf => I.ok.has z.1 (rb hfree hz hf)
  rw [exec_Assign_Name_used _ _ _ _ hsw];refine wpAny_bind (wpAny_standAt (wpAny_bind ?_))
  show wpAny _ X.A (do let _ <- comprehension (.ListComp elt [⟨tg, iter, ifs, 0⟩] scope pos) scope X.env _ (newList []) false (eval iter X.env) (some (assign (.Name y py) X.env))) _ _ s
  refine wpAny_bind (wpAny_mono (wpAny_comprehension_free (use := some (assign (.Name y py) X.env)) (Q := fun _ s' => SP X pins D0 .next s') rfl hs hclos hkind (gb hown)
    (thn (hi pins s σ H _ I h) fun v s1 h1 => thn h1 fun itv s2 h2 => ?_)) (fun _ s' hq => wpAny_pure (wpAny_pure hq)) fun _ _ e => e)
  obtain ⟨it, fp, tn, J, H2, e, I2, T, st2, f2, hW⟩ := h2;subst e;refine dg (RR := fun acc C => compPost (model X.prog X.w) X.A X.xe (some (assign (.Name y py) X.env)) (fun _ s' => SP X pins D0 .next s') acc C) I2 hc T st2 f2 hkind hown hfree hout hcl1 hcl2 hg ht he hW ?_;intro D C s' H' ys hC hCD I' hD hCn hNs hl fin;obtain ⟨m, hm⟩ := hNs
  show wpAny _ _ _ _ _ _
  have hcl : C ≠ X.env.locals := ZR (Zh I2.lt hC)
  have hcc : ∀ x c, X.env.cells.lookup x = some c -> c ≠ C := fun x c e => by
    obtain ⟨v, q⟩ := I2.cell x c e;exact Zs (Zh q.lt hC)
  refine wpAny_assign_Name (cw I' hN hi' (.inl hy) (v := .ref D) (u := .ref D) rfl (fun s'' I'' ⟨a, sb, ha⟩ => ?_) (.inr hy))
  have haC : C ≠ a := by
    rcases ha with z | z
    . rw [z]; exact hcl
    . exact Ne.symm (hcc y a z)
  refine ⟨m, hm.sameBut sb haC, fun h' sb' => ?_⟩
  have I3 : Inv X pins (σ.set i (some (.ref D))) (upd H' D (.lst ys)) { s'' with heap := h' } := by
    refine I''.turned (t' := s''.toks) (it := C) (fun b o hb e => sb'.extBut b o hb e) (by rw [zr hCD]; exact hCn) hcl (.inr (Zd I2.sz hC)) hcc fun p hp => ?_
    exact Zs (Zh (Heap.lt_size (I2.pin p hp).1) hC)
  exact ⟨_, _, I3, fin D hD⟩
section
variable {σ : St} {k : Nat} {g : TG} {tt : TT} {te : TE} {H1 : Hp} {Fin : List V -> Hp -> Prop}
theorem xz {lo : Int} {n : Nat} (Pv : Nat -> List V -> Hp -> Prop) (h0 : Pv 0 [] H1) (hz : ∀ i ys H, i <= n -> Pv i ys H -> ys.length <= sizeLine)
    (hs : ∀ i ys H, i < n -> Pv i ys H -> g (.int (lo + i)) (List.replicate k none ++ σ) H fun σ2 H2 => σ2.drop k = σ /\ tt σ2 H2 fun b H3 => if b = true then te σ2 H3 fun v H4 => Pv (i + 1) (ys ++ [v]) H4 else Pv (i + 1) ys H3)
    (hd : ∀ ys H, Pv n ys H -> Fin ys H) : sy (Itr lo n) σ k g tt te H1 Fin := by
  refine ⟨fun i m ys H => m = n - i /\ i <= n /\ Pv i ys H, ⟨n, by simp, ZE _, h0⟩, ?_⟩
  rintro i m ys H ⟨rfl, hi, p⟩
  refine ⟨hz i ys H hi p, ?_⟩
  by_cases hlt : i < n
  . refine .inr ⟨hlt, Pv (i + 1), fun ys' H' p' => ⟨n - (i + 1), by omega, rfl, hlt, p'⟩, fun x H' y => ?_⟩
    obtain ⟨e, y⟩ := y;subst e y;exact hs i ys _ hlt p
  . have e : i = n := by omega
    subst e;exact .inl ⟨Zm _, hd ys H p⟩
theorem yb {K : Fg} {a : Addr} {xs : List V} (Pv : Nat -> List V -> Hp -> Prop) (h0 : Pv 0 [] H1) (hz : ∀ i ys H, i <= xs.length -> Pv i ys H -> ys.length <= sizeLine /\ SqL K H a xs)
    (hs : ∀ i x ys H, xs[i]? = some x -> Pv i ys H -> g x (List.replicate k none ++ σ) H fun σ2 H2 => σ2.drop k = σ /\ tt σ2 H2 fun b H3 => if b = true then te σ2 H3 fun v H4 => Pv (i + 1) (ys ++ [v]) H4 else Pv (i + 1) ys H3)
    (hd : ∀ ys H, Pv xs.length ys H -> Fin ys H) : sy (Itl K a) σ k g tt te H1 Fin := by
  refine ⟨fun i m ys H => m = xs.length - i /\ i <= xs.length /\ Pv i ys H, ⟨xs.length, by simp, ZE _, h0⟩, ?_⟩
  rintro i m ys H ⟨rfl, hi, p⟩
  have q := (hz i ys H hi p).2;refine ⟨(hz i ys H hi p).1, ?_⟩
  by_cases hlt : i < xs.length
  . refine .inr ⟨⟨xs, xs[i], q, by simp [hlt]⟩, Pv (i + 1), fun ys' H' p' => ⟨xs.length - (i + 1), by omega, rfl, hlt, p'⟩, fun x H' y => ?_⟩
    obtain ⟨e, y⟩ := y;subst e;exact hs i x ys _ (y xs q) p
  . have e : i = xs.length := by omega
    subst e;exact .inl ⟨⟨xs, q, Zm _⟩, hd ys H p⟩
end
end L2
namespace L2
open PySem PySem.Spec PyProof.Rows
theorem jw (A : Around) : A.in1.units = A.units + 1 := by first | rfl | simp [Around.in1] | (unfold Around.in1; rfl)
theorem zaq {xs : List V} {us : List Value} (r : Vals xs us) {j : Nat} (h : j < us.length) : ∃ x, xs[j]? = some x /\ RelV x us[j] := by
  have hl := r.length;have hj : j < xs.length := by omega
  obtain ⟨u, hu, rx⟩ := r.get (i := j) (x := xs[j]) (by simp [hj]);refine ⟨xs[j], by simp [hj], ?_⟩;have : us[j]? = some us[j] := by simp [h]
  rw [this] at hu;cases hu;exact rx
section
variable {X : Cx} {pins : List (Addr × Obj)} {σ : St} {H : Hp} {s : Shared} {A : Around} {a b : Addr}
end
def GridL (K : Fg) (H : Hp) (a : Addr) (as : List Addr) (rows : List (List Int)) : Prop := SqL K H a (as.map V.ref) /\ as.length = rows.length /\ ∀ (i : Nat) (r : Addr) (ns : List Int), as[i]? = some r -> rows[i]? = some ns -> SqL K H r (ns.map V.int)
section
variable {X : Cx} {pins : List (Addr × Obj)} {σ : St} {H : Hp} {s : Shared} {A : Around} {a b : Addr}
end
def kit0 (T1 T2 : String) : Option Bool := if (Value.type T1 == Value.type T2) = true then some true else if PySem.W.kitMeta T2 = true then (fastBuiltinMro T1).map (·.contains (Value.type T2)) else none
theorem zhi (K : Fg) (T1 T2 : String) : PySem.W.kitOne K (.type T1) (.type T2) = kit0 T1 T2 := rfl
section
variable {X : Cx}
theorem x0 : ux X (.builtin "isinstance") (fun xs H Q => ∃ x T T1 b, xs = [x, .ty T] /\ TyOf X.K H x (.type T1) /\ kit0 T1 T = some b /\ Q (.bl b) H) := by
  intro pins s σ H xs us Q I r h;obtain ⟨x, T, T1, b, rfl, ty, e, q⟩ := h;obtain ⟨u, v, rfl, rx, ry⟩ := Vals.two r;cases ry;exact zfr I rx ty ((zhi X.K T1 T).trans e) fun tk => ⟨.bl b, H, I.tok _, rfl, q⟩
theorem p6 {x : Str} {T : String} {pos : Pos} (hg : Gl X x) (hm : X.mg x = none) (hv : bootBuiltins x = some (.type T)) (hn : x ≠ "__name__" := by decide) (hd : (x == ("__debug__" : Str)) = false := by decide) : PE X (.Name x pos) (tC (.ty T)) :=
  zit hg hm hv rfl hn hd
end
theorem yi : bootBuiltins "len" = some (.builtin "len") := by decide +kernel
theorem xh : bootBuiltins "isinstance" = some (.builtin "isinstance") := by decide +kernel
theorem bt_max : bootBuiltins "max" = some (.builtin "max") := by decide +kernel
theorem zfn : bootBuiltins "min" = some (.builtin "min") := by decide +kernel
theorem lq : bootBuiltins "all" = some (.builtin "all") := by decide +kernel
theorem zga : bootBuiltins "abs" = some (.builtin "abs") := by decide +kernel
theorem bt_int : bootBuiltins "int" = some (.type "int") := by decide +kernel
theorem zio : bootBuiltins "bool" = some (.type "bool") := by decide +kernel
theorem rg : bootBuiltins "list" = some (.type "list") := by decide +kernel
theorem tw : bootBuiltins "tuple" = some (.type "tuple") := by decide +kernel
theorem bt_str : bootBuiltins "str" = some (.type "str") := by decide +kernel
theorem zis : bootBuiltins "dict" = some (.type "dict") := by decide +kernel
theorem bt_set : bootBuiltins "set" = some (.type "set") := by decide +kernel
theorem zgn : bootBuiltins "zip" = some (.type "zip") := by decide +kernel
theorem zad : bootBuiltins "enumerate" = some (.type "enumerate") := by decide +kernel
structure zc (K : Fg) (mg : Str -> Option Value) (name : Str) (st : Stmt) (ps : List Str) : Prop where
  ex : ∃ f fd, mg name = some (.ref f) /\ Fun K name name st f fd /\ Binds K fd ps []
structure FnAt (P : Program) (w : World) (K : Fg) (mg : Str -> Option Value) (base : Heap) (name : Str) (k : Nat) (ps : List Str) (sp : Sp) : Prop where
  ex : ∃ f fd, mg name = some (.ref f) /\ PySem.W.keepIn K (.ref f) = true /\ Binds K fd ps [] /\ FnOk P w K mg base CX0 k f fd ps sp
theorem FnAt.of {P : Program} {w : World} {K : Fg} {mg : Str -> Option Value} {base : Heap} {name : Str} {st : Stmt} {N ps : List Str} {k : Nat} {sp : Sp} (D : zc K mg name st ps) (S : zn N ps (zi st)) (len : ∀ vs H Q E, sp vs H Q E -> vs.length = ps.length)
    (hbody : ∀ (f : Addr) (cdv : Value) (A : Around) (outer : List Env) (s : Shared) (H : Hp) (vs : List V) (Q : VK) (E : XK), Room k (A.deeper (envOfC name (zi st) s.heap.objs.size f cdv)) -> sp vs H Q E ->
      ∃ t, PSs (cxOf CX0 P w K mg base N name (zi st) f cdv A outer s H E).nox (xm st) t /\ t { nx := fun _ H' => Q .non H', rt := Q } (start N vs) H) : FnAt P w K mg base name (k + 1) ps sp := by
  obtain ⟨f, fd, hm, F, hb⟩ := D.ex;exact ⟨f, fd, hm, F.kp, hb, F.ok S len (hbody f)⟩
theorem def_mk {K : Fg} {h : Heap} {mg : Str -> Option Value} (X : K.In h) (G : h.Ns mainGlobals mg) {name : Str} {st : Stmt} {f : Addr} {oc : Value} {od an : Option Addr} {osl : Array (Option Value)} {kV doc pm cdv ct : Value} {ps : List Str}
    (a : PySem.W.nsIn K mainGlobals name = some (some (.ref f))) (l : K.lookup f = some ⟨oc, od, .func (PySem.W.fnOf name name (t8 st) (xm st) (zi st) .none kV doc pm an cdv ct), osl⟩)
    (c : PySem.W.codeIn K cdv name = true) (k : PySem.W.keepIn K (.ref f) = true)
    (hb : ∀ (kV doc pm : Value) (an : Option Addr) (cdv ct : Value) (us : List Value), us.length = ps.length -> bindArgs (PySem.W.fnOf name name (t8 st) (xm st) (zi st) .none kV doc pm an cdv ct) ⟨us, []⟩ = pure (ps.zip us)) : zc K mg name st ps :=
  ⟨f, _, PySem.W.mg_of X G a, ze4 l c k, (ze4 (st := st) l c k).binds hb⟩
section
variable {X : Cx} {x : Str} {k : Nat} {ps : List Str} {sp : Sp} {p pos : Pos} {e : Expr} {es : List Expr} {t : TA}
theorem zh (F : FnAt X.prog X.w X.K X.mg X.base x k ps sp) (hr : Room k X.A) (hg : Gl X x) (ha : PA X (e :: es) t) (hdb : (x == ("__debug__" : Str)) = false := by decide) (he : starEach (e :: es) X.env = (false, eval e X.env) :: starEach es X.env := by rfl)
    (hpl : (backTo pos (starEach es X.env)).any (·.1) = false := by rfl) : PE X (.Call (.Name x p) (e :: es) [] pos) (am sp [] E0 t) := by
  obtain ⟨f, fd, hm, hk, hb, G⟩ := F.ex;exact zda G hr hg hm hk hb .nil pass0 ha hdb he hpl
end
theorem cxK {CX : CXT} {P : Program} {w : World} {K : Fg} {mg : Str -> Option Value} {base : Heap} {N : List Str} {qual : Str} {scope : Scope} {f : Addr} {cd : Value} {A : Around} {outer : List Env} {s : Shared} {H : Hp} {E : XK} : (cxOf CX P w K mg base N qual scope f cd A outer s H E).K = K := rfl
section
variable {D : Ends} {σ : St} {H : Hp} {Q : VK} {QT : Bool -> Hp -> Prop} {QA : List V -> Hp -> Prop} {QS : St -> Hp -> Prop} {R : It -> Hp -> Prop} {a b c : TE} {s t : TS} {tt uu : TT} {ta tr : TA} {g : TG} {i : Nat} {v x y z : V} {r r' : R2} {wi : TI}
theorem e_var : tVar i σ H Q = ∃ v, σ[i]? = some (some v) /\ Q v H := rfl
theorem e_C : tC v σ H Q = Q v H := rfl
theorem e_op : tOp r a b σ H Q = a σ H fun x H1 => b σ H1 fun y H2 => r x y H2 Q := rfl
theorem e_un {u : V -> Hp -> VK -> Prop} : tUn u a σ H Q = a σ H fun x H1 => u x H1 Q := rfl
theorem e_rI {C : Int -> Int -> Prop} {f : Int -> Int -> V} : rI C f x y H Q = ∃ i j, x = .int i /\ y = .int j /\ C i j /\ Q (f i j) H := rfl
theorem e_rI0 {f : Int -> Int -> V} : rI0 f x y H Q = ∃ i j, x = .int i /\ y = .int j /\ Q (f i j) H := rfl
theorem e_rU {f : Int -> V} : rU f x H Q = ∃ i, x = .int i /\ Q (f i) H := rfl
theorem e_rEq : rEq x y H Q = (scal x y = true /\ Q (.bl (decide (x = y))) H) := rfl
theorem e_rNe : rNe x y H Q = (scal x y = true /\ Q (.bl (!decide (x = y))) H) := rfl
theorem e_ixL {K : Fg} : rIxL K x y H Q = ∃ p xs i v, x = .ref p /\ y = .int i /\ SqL K H p xs /\ atI xs i = some v /\ Q v H := rfl
theorem e_ixT {K : Fg} : rIxT K x y H Q = ∃ p xs i v, x = .ref p /\ y = .int i /\ SqT K H p xs /\ atI xs i = some v /\ Q v H := rfl
theorem e_set {o i v : V} {Q : Hp -> Prop} : rSetL o i v H Q = ∃ p xs k j, o = .ref p /\ i = .int k /\ H p = some (.lst xs) /\ ixN xs.length k = some j /\ Q (upd H p (.lst (xs.set j v))) := rfl
theorem e_cat : rCat x y H Q = ∃ l b xs zs, x = .ref l /\ y = .ref b /\ H l = some (.lst xs) /\ H b = some (.lst zs) /\ xs.length + zs.length <= sizeLine /\ ∀ p, H p = none -> Q (.ref p) (upd H p (.lst (xs ++ zs))) := rfl
theorem e_test : zet a σ H QT = a σ H fun x H' => ∃ k, x = .bl k /\ QT k H' := rfl
theorem e_B : tB a σ H QT = a σ H fun x H1 => ∃ c, x = .bl c /\ QT c H1 := rfl
theorem e_and : tAnd tt uu σ H QT = tt σ H fun c H1 => if c = true then uu σ H1 QT else QT false H1 := rfl
theorem e_or : tOr tt uu σ H QT = tt σ H fun c H1 => if c = true then QT true H1 else uu σ H1 QT := rfl
theorem e_not : tNot tt σ H QT = tt σ H fun c H1 => QT (!c) H1 := rfl
theorem e_andV : tAndV a b σ H Q = a σ H fun x H1 => ∃ c, x = .bl c /\ if c = true then b σ H1 Q else Q (.bl false) H1 := rfl
theorem e_orV : tOrV a b σ H Q = a σ H fun x H1 => ∃ c, x = .bl c /\ if c = true then Q (.bl true) H1 else b σ H1 Q := rfl
theorem e_notV : tNotV a σ H Q = a σ H fun x H1 => ∃ c, x = .bl c /\ Q (.bl (!c)) H1 := rfl
theorem e_ifE : tIf tt a b σ H Q = tt σ H fun c H1 => if c = true then a σ H1 Q else b σ H1 Q := rfl
theorem e_all : tAll σ H QT = QT true H := rfl
theorem e_next : tNext D σ H = D.nx σ H := rfl
theorem e_seq : tSeq s t D σ H = s { D with nx := t D } σ H := rfl
theorem e_brk : tBreak D σ H = D.bk σ H := rfl
theorem e_cnt : tCont D σ H = D.ct σ H := rfl
theorem e_drop : tDrop a D σ H = a σ H fun _ H1 => D.nx σ H1 := rfl
theorem e_ret : tRet a D σ H = a σ H D.rt := rfl
theorem e_retN : tRetN D σ H = D.rt .non H := rfl
theorem e_ifS : tIfS tt s t D σ H = tt σ H fun b H1 => if b = true then s D σ H1 else t D σ H1 := rfl
theorem e_asg : tAsg a g D σ H = a σ H fun x H1 => g x σ H1 D.nx := rfl
theorem ziu : zeb i v σ H QS = QS (σ.set i (some v)) H := rfl
theorem e_setC : tSetC i a D σ H = a σ H fun x H1 => D.nx (σ.set i (some x)) H1 := rfl
theorem e_augS {tget : V -> V -> Hp -> VK -> Prop} {tip : TIp} {tset : TSet} : tAugS a b c tget tip tset D σ H = a σ H fun o H1 => b σ H1 fun i H2 => tget o i H2 fun x H3 => c σ H3 fun y H4 => tip x y H4 fun z H5 => tset o i z H5 fun H6 => D.nx σ H6 := rfl
theorem e_ipI {f : Int -> Int -> Int} : ipI f x y H Q = ∃ i j, x = .int i /\ y = .int j /\ Q (.int (f i j)) H := rfl
theorem e_nil : tNil σ H QA = QA [] H := rfl
theorem e_cons : zee a ta σ H QA = a σ H fun x H1 => ta σ H1 fun xs H2 => QA (x :: xs) H2 := rfl
theorem e_tup : tTup ta σ H Q = ta σ H fun xs H1 => xs.length <= sizeLine /\ ∀ p, H1 p = none -> Q (.ref p) (upd H1 p (.tup xs)) := rfl
theorem e_lst : tLst ta σ H Q = ta σ H fun xs H1 => xs.length <= sizeLine /\ ∀ p, H1 p = none -> Q (.ref p) (upd H1 p (.lst xs)) := rfl
theorem e_call {sp : Sp} {E : XK} : am sp [] E ta σ H Q = ta σ H fun vs H1 => sp (vs ++ []) H1 Q E := rfl
theorem e_CB {u : List V -> Hp -> VK -> Prop} : tCB u ta σ H Q = ta σ H fun vs H1 => u vs H1 Q := rfl
theorem e_BM {K : Fg} {T : String} {u : V -> List V -> Hp -> VK -> Prop} : tBM K T u a ta σ H Q = a σ H fun x H1 => tyV K T x H1 /\ ta σ H1 fun xs H2 => u x xs H2 Q := rfl
theorem e_app {vs : List V} : zcu x vs H Q = ∃ l xs y, x = .ref l /\ vs = [y] /\ H l = some (.lst xs) /\ xs.length < sizeLine /\ Q .non (upd H l (.lst (xs ++ [y]))) := rfl
theorem e_rng1 : iRng1 ta σ H R = ta σ H fun vs H1 => ∃ j : Int, vs = [.int j] /\ -(2 ^ 62) <= j /\ j < 2 ^ 62 /\ R (Itr 0 j.toNat) H1 := rfl
theorem e_rng2 : iRng2 ta σ H R = ta σ H fun vs H1 => ∃ i j : Int, vs = [.int i, .int j] /\ (-(2 ^ 62) <= i /\ i < 2 ^ 62 /\ -(2 ^ 62) <= j /\ j < 2 ^ 62) /\ R (Itr i (j - i).toNat) H1 := rfl
theorem e_iL {K : Fg} : iList K a σ H R = a σ H fun x H1 => ∃ p, x = .ref p /\ (∃ xs, SqL K H1 p xs) /\ R (Itl K p) H1 := rfl
def ForW (J : It) (g : TG) (tb : TS) (D : Ends) (σ : St) (H1 : Hp) : Prop := ∃ W : Nat -> Nat -> St -> Hp -> Prop, (∃ m, W 0 m σ H1) /\ ∀ i m σ H, W i m σ H ->
  (J.stop i H /\ D.nx σ H) \/ (J.go i H /\ ∃ N : St -> Hp -> Prop, (∀ σ' H', N σ' H' -> ∃ m', m' < m /\ W (i + 1) m' σ' H') /\ ∀ x H', J.yld i H x H' -> g x σ H' fun σ2 H2 => tb { D with nx := N, ct := N, bk := D.nx } σ2 H2)
theorem e_for : tFor wi g t D σ H = wi σ H fun J H1 => ForW J g t D σ H1 := rfl
theorem e_comp {k : Nat} {g : Dyn -> TG} {tt : Dyn -> TT} {te : Dyn -> TE} : al k wi g tt te σ H Q = wi σ H fun J H1 => ∀ d : Dyn, sy J σ k (g d) (tt d) (te d) H1 fun ys H' => ∀ l, H' l = none -> Q (.ref l) (upd H' l (.lst ys)) := rfl
end
end L2
namespace L2
open PySem PySem.Spec PyProof.Rows
section
variable {X : Cx}
theorem t9 (hc : X.calm = true) : ux X (.builtin "all") (fun xs H Q => ∃ (p : Addr) (bs : List Bool), xs = [.ref p] /\ SqL X.K H p (bs.map V.bl) /\ Q (.bl (bs.all id)) H) := by
  intro pins s σ H xs us Q I r h;obtain ⟨p, bs, rfl, hq, q⟩ := h;obtain ⟨u, rfl, rx⟩ := Vals.one r;cases rx;obtain ⟨its, rv, pl, hz⟩ := I.list hq;have hlt : p < s.heap.objs.size := by obtain ⟨_, e, _⟩ := pl.isList; exact Heap.lt_size e
  have hlen : its.length = bs.length := by have := rv.length; rw [Za] at this; exact this.symm
  refine call_all_walk (wpAny_pyIter_list pl.isList ?_)
  refine ⟨s.heap.objs.size, [s.heap.objs.size, p], [s.heap.objs.size], its.toArray.size, _, _, fun i => (bs[i]?).getD true, rfl, Walks.list (A := X.A.in1) (I.ok.hd hc) _ p (Zs hlt) its.toArray,
    ⟨⟨_, Heap.get?_push_size _ rfl, rfl, rfl⟩, pl.isList.push _⟩, fun i v s' Q' E' hP hQ => ?_, fun h' tk hk => ?_⟩
  . have hi : its[i]? = some v := by simpa using hP
    have hil : i < bs.length := by rw [<- hlen]; exact (Zc.mp hi).1
    have e : bs[i]? = some bs[i] := by simp [hil]
    obtain ⟨u, hu, ru⟩ := rv.get (i := i) (x := V.bl bs[i]) (by rw [Ze, e]; rfl);rw [hi] at hu;cases hu;cases ru;simp only [e, Option.getD_some] at hQ;exact wpAny_truthy_bool hQ
  . have e : ((List.range its.toArray.size).all fun i => (bs[i]?).getD true) = bs.all id := by
      rw [Zr, hlen];rw [Bool.eq_iff_iff, ZQ, ZQ]
      constructor
      . intro z b hb
        obtain ⟨i, hi, rfl⟩ := Zy hb;have := z i (ZT.mpr hi)
        simpa [Zb hi] using this
      . intro z i hi
        have hi' := ZT.mp hi;simp only [Zb hi', Option.getD_some];exact z _ (Zl hi')
    rw [e];exact ⟨.bl (bs.all id), H, I.kept fun b x e => hk b x (fun hm => by rw [ZC.mp hm] at e; exact ZJ _ (Heap.lt_size e)) (Heap.get?_push_of_some _ e), rfl, q⟩
end
def Itz (K : Fg) (a b : Addr) : It :=
  ⟨fun i H => ∃ xs ys x y, SqL K H a xs /\ SqL K H b ys /\ xs[i]? = some x /\ ys[i]? = some y,
   fun i H v H' => ∃ T x y, v = .ref T /\ H T = none /\ H' = upd H T (.tup [x, y]) /\ ∀ xs ys, SqL K H a xs -> SqL K H b ys -> xs[i]? = some x /\ ys[i]? = some y,
   fun i H => ∃ xs ys, SqL K H a xs /\ SqL K H b ys /\ (xs.length <= i \/ ys.length <= i)⟩
structure zbd (z TI TO i1 i2 : Addr) : Prop where
  TIz : TI ≠ z
  TOz : TO ≠ z
  i1z : i1 ≠ z
  i2z : i2 ≠ z
  TITO : TI ≠ TO
  TIi1 : TI ≠ i1
  TIi2 : TI ≠ i2
  TOi1 : TO ≠ i1
  TOi2 : TO ≠ i2
  i12 : i1 ≠ i2
def tnZip (z TI TO i1 i2 l1 l2 : Addr) (i : Nat) (h : Heap) : Prop := IsZip h z TI TO .none /\ IsPair h TI (.ref i1) (.ref i2) /\ (∃ a b, IsPair h TO a b) /\ h.IsListIter i1 l1 i /\ h.IsListIter i2 l2 i
theorem bv {z TI TO i1 i2 l1 l2 : Addr} {i : Nat} {h : Heap} {xs ys : Array Value} (D : zbd z TI TO i1 i2) (t : tnZip z TI TO i1 i2 l1 l2 i h) (h1 : h.IsList l1 xs) (h2 : h.IsList l2 ys) : ZipApart z TI TO i1 i2 l1 l2 := by
  obtain ⟨hz, hTI, ⟨a, b, hTO⟩, k1, k2⟩ := t
  have n1 : ∀ {l : Addr} {ws : Array Value}, h.IsList l ws -> l ≠ z := fun {l ws} q e => by
    obtain ⟨o, e1, c, _⟩ := q;subst e;rw [hz] at e1; cases e1; simp at c
  have n2 : ∀ {l : Addr} {ws : Array Value}, h.IsList l ws -> l ≠ TO := fun {l ws} q e => by
    obtain ⟨o, e1, c, _⟩ := q;subst e;rw [hTO] at e1; cases e1; simp at c
  have n3 : ∀ {l j l' : Addr} {k : Nat} {ws : Array Value}, h.IsListIter j l' k -> h.IsList l ws -> l ≠ j := fun {l j l' k ws} k1 q e => by
    obtain ⟨o, e1, c, _⟩ := q;obtain ⟨o', e1', c', _⟩ := k1;subst e;rw [e1'] at e1; cases e1; rw [c'] at c; simp at c
  exact ⟨D.TIz, D.TOz, D.i1z, D.i2z, D.TITO, D.TIi1, D.TIi2, D.TOi1, D.TOi2, D.i12, n1 h1, n2 h1, n3 k1 h1, n3 k2 h1, n1 h2, n2 h2, n3 k1 h2, n3 k2 h2⟩
theorem Inv.turnedLaid {X : Cx} {pins : List (Addr × Obj)} {σ : St} {H : Hp} {s : Shared} {h' : Heap} {t' : Nat} {ch : List Addr} {T : Addr} {o : HO} (I : Inv X pins σ H s) (hf : ∀ b ∈ ch, FpOk X pins H b)
    (k : ∀ b o, b ∉ ch -> s.heap.get? b = some o -> h'.get? b = some o) (hT : s.heap.objs.size <= T) (new : ObjOk X.prog X.w (upd H T o) h' T o) : Inv X pins σ (upd H T o) { s with heap := h', toks := t' } := by
  have nch : ∀ b u, H b = some u -> b ∉ ch := fun b u e z => by rw [(hf b z).1] at e; cases e
  have nT : ∀ b u, H b = some u -> b ≠ T := fun b u e => Zs (Zh (I.hok.lt e) hT)
  have nT' : ∀ b u, s.heap.get? b = some u -> b ≠ T := fun b u e => Zs (Zh (Heap.lt_size e) hT)
  refine I.step (g' := s.gens) (d' := s.drawn) (ch := ch) (fun b hb => ?_) (fun b o _ _ hc e _ => k b o hc e) (fun b o _ _ hc e _ => ⟨o.slots, k b o hc e⟩) (fun b o _ e n => by rw [zr (nT' b o e)]; exact n)
    (fun b o hc e => ⟨o, k b o hc e⟩) (fun b xs e => by rw [zr (nT b _ e)]; exact e) (fun b ob u e => by rw [zr (nT b _ e)]; exact e) (fun b ps e => ⟨#[], by rw [zr (nT b _ e), e]; simp⟩) (fun m hm => ?_) (fun b u e => ?_) I.bare
  . obtain ⟨f0, f1, f2, f3, f4, f5⟩ := hf b hb
    exact ⟨f3, f1, f4, f5⟩
  . obtain ⟨ob, es, ep, ho, r⟩ := hm
    exact ⟨ob, es, ep, k _ ob (fun z => (hf _ z).2.1 rfl) ho, r⟩
  . by_cases hb : b = T
    . subst hb
      rw [zf] at e;cases e;exact new
    . rw [zr hb] at e
      refine (I.hok b u e).stay (fun c v hc q => k c v ?_ q) (fun c q => by rw [zr (nT c _ q)]; exact q) fun c xs q => by rw [zr (nT c _ q)]; exact q
      rcases hc with z | z
      . rw [z]; exact nch b u e
      . exact nch c _ z
theorem zhu {P : Program} {w : World} {K : Fg} {elts : List Expr} {x1 : Nat} {pos : Pos} (z TI TO i1 i2 l1 l2 : Addr) (D : zbd z TI TO i1 i2) :
    Turn P w K (.Tuple elts x1 pos) (Itz K l1 l2) [z, TI, TO, i1, i2] z (tnZip z TI TO i1 i2 l1 l2) where
  mem := by simp
  obj := fun i h st b hb => by
    obtain ⟨hz, hTI, ⟨a, b', hTO⟩, ⟨o1, e1, c1, d1⟩, ⟨o2, e2, c2, d2⟩⟩ := st;simp only [ZK, Zx, or_false] at hb
    rcases hb with rfl | rfl | rfl | rfl | rfl
    . exact ⟨_, hz, fun v q => by cases q⟩
    . exact ⟨_, hTI, fun v q => by cases q⟩
    . exact ⟨_, hTO, fun v q => by cases q⟩
    . exact ⟨o1, e1, fun v q => by rw [d1] at q; cases q⟩
    . exact ⟨o2, e2, fun v q => by rw [d2] at q; cases q⟩
  keep := fun i h h' st k => by
    obtain ⟨hz, hTI, ⟨a, b, hTO⟩, h1, h2⟩ := st;exact ⟨k z (by simp) _ hz, k TI (by simp) _ hTI, ⟨a, b, k TO (by simp) _ hTO⟩, h1.at fun o e => k i1 (by simp) o e, h2.at fun o e => k i2 (by simp) o e⟩
  item := by
    intro X hP hw hK hc i pins s σ H E I hf st hg;subst hP hw hK;obtain ⟨xs, ys, x, y, qa, qb, hx, hy⟩ := hg;obtain ⟨us, ru, pu, zu⟩ := I.list qa;obtain ⟨vs, rv, pv', zv⟩ := I.list qb;obtain ⟨u, hu, rxu⟩ := ru.get hx;obtain ⟨v, hv, ryv⟩ := rv.get hy;have A := bv D st pu.isList pv'.isList;obtain ⟨hz, hTI, ⟨a, b, hTO⟩, h1, h2⟩ := id st;refine wpAny_pyNext_zip_item A hz hTI hTO h1 h2 pu.isList pv'.isList (x := u) (y := v) (by simpa using hu) (by simpa using hv) fun h' a1 a2 a3 a4 a5 a6 hk => ?_
    have ltT : ∀ {c o}, s.heap.get? c = some o -> c ≠ s.heap.objs.size := fun e => Zs (Heap.lt_size e)
    refine ⟨_, rfl, wpAny_letOwnedTupleGo_zip (s := { s with heap := h' }) a1 fun h'' b1 sb => ?_⟩;have hTz : s.heap.objs.size ≠ z := Ne.symm (ltT hz)
    have hf4 : ∀ b ∈ [z, TO, i1, i2], FpOk X pins H b := fun b hb => hf b (by
      simp only [ZK, Zx, or_false] at hb ⊢
      rcases hb with h | h | h | h <;> simp [h])
    have I1 : Inv X pins σ (upd H s.heap.objs.size (.tup [x, y])) { s with heap := h'', toks := s.toks } := I.turnedLaid (ch := [z, TO, i1, i2]) hf4 (fun b o hb e => by
      simp only [ZK, Zx, or_false, not_or] at hb
      exact sb.extBut b o hb.1 (hk b o hb.1 hb.2.1 hb.2.2.1 hb.2.2.2 e)) (Zm _) ⟨by show 2 <= sizeLine; decide, [u, v], .cons rxu (.cons ryv .nil), by
        have e := sb.extBut _ _ hTz a5
        exact ⟨_, e, rfl, _, rfl, rfl⟩⟩
    refine ⟨.ref s.heap.objs.size, _, I1, rfl, ⟨s.heap.objs.size, x, y, rfl, I.hok.fresh (Zm _), rfl, fun xs' ys' q1 q2 => ?_⟩, ?_, fun b hb => ?_⟩
    . rw [I.list_inj q1 qa, I.list_inj q2 qb]
      exact ⟨hx, hy⟩
    . exact ⟨b1, sb.extBut _ _ A.TIz (hk _ _ A.TIz A.TITO A.TIi1 A.TIi2 hTI), ⟨_, _, sb.extBut _ _ A.TOz a2⟩, a3.extBut sb.extBut A.i1z, a4.extBut sb.extBut A.i2z⟩
    . have hb' := (hf b hb).1
      rw [zr ?_]
      . exact hb'
      . simp only [ZK, Zx, or_false] at hb
        rcases hb with rfl | rfl | rfl | rfl | rfl
        . exact ltT hz
        . exact ltT hTI
        . exact ltT hTO
        . obtain ⟨_, e, _⟩ := h1; exact ltT e
        . obtain ⟨_, e, _⟩ := h2; exact ltT e
  done := by
    intro X hP hw hK hc i pins s σ H E I hf st hg;subst hP hw hK;obtain ⟨xs, ys, qa, qb, hend⟩ := hg;obtain ⟨us, ru, pu, zu⟩ := I.list qa;obtain ⟨vs, rv, pv', zv⟩ := I.list qb;have A := bv D st pu.isList pv'.isList;obtain ⟨hz, hTI, ⟨a, b, hTO⟩, h1, h2⟩ := id st;have l1' := ru.length;have l2' := rv.length
    refine wpAny_pyNext_zip_end (I.ok.hd hc) A hz hTI hTO h1 h2 pu.isList pv'.isList (by
      rcases hend with h | h
      . left; simp; omega
      . right; simp; omega) fun h' hk => ⟨rfl, ?_⟩
    have nch : ∀ b u, H b = some u -> b ∉ [z, TO, i1, i2] := fun b u e q => by
      have := (hf b (by simp only [ZK, Zx, or_false] at q ⊢; rcases q with h | h | h | h <;> simp [h])).1;rw [this] at e; cases e
    have k : ∀ b o, b ∉ [z, TO, i1, i2] -> s.heap.get? b = some o -> h'.get? b = some o := fun b o hb e => by
      simp only [ZK, Zx, or_false, not_or] at hb;exact hk b o hb.1 hb.2.1 hb.2.2.1 hb.2.2.2 e
    have hf4 : ∀ b ∈ [z, TO, i1, i2], FpOk X pins H b := fun b hb => hf b (by
      simp only [ZK, Zx, or_false] at hb ⊢
      rcases hb with h | h | h | h <;> simp [h])
    exact I.step (g' := s.gens) (d' := s.drawn) (t' := s.toks) (ch := [z, TO, i1, i2]) (fun b hb => by
        obtain ⟨f0, f1, f2, f3, f4, f5⟩ := hf4 b hb
        exact ⟨f3, f1, f4, f5⟩) (fun b o _ _ hc e _ => k b o hc e) (fun b o _ _ hc e _ => ⟨o.slots, k b o hc e⟩) (fun b o _ e n => n)
      (fun b o hc e => ⟨o, k b o hc e⟩) (fun b xs e => e) (fun b ob u e => e) (fun b ps e => ⟨#[], by rw [e]; simp⟩) (fun m hm => by
        obtain ⟨ob, es, ep, ho, r⟩ := hm
        exact ⟨ob, es, ep, k _ ob (fun q => (hf4 _ q).2.1 rfl) ho, r⟩) (fun b u e => (I.hok b u e).stay (fun c v hc q => k c v (by
          rcases hc with r | r
          . rw [r]; exact nch b u e
          . exact nch c _ r) q) (fun _ q => q) fun _ _ q => q) I.bare
  self := fun _ _ _ _ _ st h => wpAny_pyIter_zip st.1 h
def iZip (K : Fg) (ta : TA) : TI := fun σ H R => ta σ H fun vs H1 => ∃ a b, vs = [.ref a, .ref b] /\ (∃ xs, SqL K H1 a xs) /\ (∃ ys, SqL K H1 b ys) /\ R (Itz K a b) H1
theorem zfh {X : Cx} {a b : Expr} {ta : TA} {p pos tpos : Pos} {elts : List Expr} {x1 : Nat} (hg : Gl X "zip") (hm : X.mg "zip" = none) (ha : PA X [a, b] ta) (hs : starEach [a, b] X.env = [(false, eval a X.env), (false, eval b X.env)] := by rfl) (hs2 : starEach [b] X.env = [(false, eval b X.env)] := by rfl) :
    PI X (.Tuple elts x1 tpos) (.Call (.Name "zip" p) [a, b] [] pos) (iZip X.K ta) := by
  intro pins s σ H R I h;refine Call_ (ui I hg hm zgn (PyProof.Rows.callWith_type1 (thn (ha pos pins s σ H _ I h) fun us s1 ⟨vs, H1, I1, r1, q1⟩ => ?_) (by rw [hs, hs2]) (by rw [hs2]; rfl)));obtain ⟨a, b, e, ⟨xs, qa⟩, ⟨ys, qb⟩, q⟩ := q1;subst e;obtain ⟨u, v, rfl, ru, rv⟩ := Vals.two r1;cases ru; cases rv;obtain ⟨its, _, pa, _⟩ := I1.list qa;obtain ⟨jts, _, pb, _⟩ := I1.list qb;refine call_zip_2 pa.isList pb.isList fun h' z1 z2 z3 z4 z5 z6 kp => ?_
  refine wpAny_pyIter_zip (s := { s1 with heap := h' }) z1 ?_;have I2 : Inv X pins σ H1 { s1 with heap := h' } := I1.kept (t' := s1.toks) kp;have D : zbd (s1.heap.objs.size + 4) (s1.heap.objs.size + 2) (s1.heap.objs.size + 3) s1.heap.objs.size (s1.heap.objs.size + 1) := by constructor <;> (show (_ : Nat) ≠ _; omega)
  refine ⟨s1.heap.objs.size + 4, [s1.heap.objs.size + 4, s1.heap.objs.size + 2, s1.heap.objs.size + 3, s1.heap.objs.size, s1.heap.objs.size + 1], _, _, H1, rfl, I2, zhu _ _ _ _ _ a b D, ⟨z1, z2, ⟨_, _, z3⟩, z4, z5⟩, fun c hc => ?_, q⟩
  have hle : s1.heap.objs.size <= c := by
    simp only [ZK, Zx, or_false] at hc
    rcases hc with h | h | h | h | h <;> (rw [h]; omega)
  exact I1.fpOk hle (I1.hok.fresh hle)
theorem e_zip {K : Fg} {ta : TA} {σ : St} {H : Hp} {R : It -> Hp -> Prop} : iZip K ta σ H R = ta σ H fun vs H1 => ∃ a b, vs = [.ref a, .ref b] /\ (∃ xs, SqL K H1 a xs) /\ (∃ ys, SqL K H1 b ys) /\ R (Itz K a b) H1 := rfl
theorem e_gTup {K : Fg} {n : Nat} {t : TGs} {v : V} {σ : St} {H : Hp} {Q : St -> Hp -> Prop} : gTup K n t v σ H Q = ∃ a xs, v = .ref a /\ SqT K H a xs /\ xs.length = n /\ t xs σ H Q := rfl
theorem e_gNil {vs : List V} {σ : St} {H : Hp} {Q : St -> Hp -> Prop} : gNil vs σ H Q = (vs = [] /\ Q σ H) := rfl
theorem zi4 {t : TG} {u : TGs} {vs : List V} {σ : St} {H : Hp} {Q : St -> Hp -> Prop} : gCons t u vs σ H Q = ∃ v r, vs = v :: r /\ t v σ H fun σ' H' => u r σ' H' Q := rfl
end L2
namespace L2
open PySem PySem.Spec PyProof.Rows
section
variable {X : Cx}
end
section
variable {X : Cx}
end
theorem e_gSub {to ti : TE} {t : TSet} {v : V} {σ : St} {H : Hp} {Q : St -> Hp -> Prop} : gSub to ti t v σ H Q = to σ H fun o H1 => ti σ H1 fun i H2 => t o i v H2 fun H3 => Q σ H3 := rfl
theorem e_rep {x y : V} {H : Hp} {Q : VK} : rRep x y H Q = ∃ l k xs, x = .ref l /\ y = .int k /\ H l = some (.lst xs) /\ -(2 ^ 63) <= k /\ k < 2 ^ 63 /\ xs.length * k.toNat <= sizeLine /\ ∀ p, H p = none -> Q (.ref p) (upd H p (.lst (List.replicate k.toNat xs).flatten)) := rfl
end L2
namespace L2
open PySem PySem.Spec PyProof.Rows
section
variable {σ : St} {k : Nat} {g : TG} {tt : TT} {te : TE} {H1 : Hp} {Fin : List V -> Hp -> Prop}
theorem a7 {K : Fg} {a b : Addr} {xs zs : List V} (Pv : Nat -> List V -> Hp -> Prop) (h0 : Pv 0 [] H1) (hz : ∀ i ys H, i <= min xs.length zs.length -> Pv i ys H -> ys.length <= sizeLine /\ SqL K H a xs /\ SqL K H b zs)
    (hs : ∀ i x z ys H T, xs[i]? = some x -> zs[i]? = some z -> H T = none -> Pv i ys H -> g (.ref T) (List.replicate k none ++ σ) (upd H T (.tup [x, z])) fun σ2 H2 => σ2.drop k = σ /\ tt σ2 H2 fun b H3 => if b = true then te σ2 H3 fun v H4 => Pv (i + 1) (ys ++ [v]) H4 else Pv (i + 1) ys H3)
    (hd : ∀ ys H, Pv (min xs.length zs.length) ys H -> Fin ys H) : sy (Itz K a b) σ k g tt te H1 Fin := by
  refine ⟨fun i m ys H => m = min xs.length zs.length - i /\ i <= min xs.length zs.length /\ Pv i ys H, ⟨min xs.length zs.length, by simp, ZE _, h0⟩, ?_⟩
  rintro i m ys H ⟨rfl, hi, p⟩
  obtain ⟨q0, qa, qb⟩ := hz i ys H hi p;refine ⟨q0, ?_⟩
  by_cases hlt : i < min xs.length zs.length
  . have h1 : i < xs.length := by omega
    have h2 : i < zs.length := by omega
    refine .inr ⟨⟨xs, zs, xs[i], zs[i], qa, qb, by simp [h1], by simp [h2]⟩, Pv (i + 1), fun ys' H' p' => ⟨min xs.length zs.length - (i + 1), by omega, rfl, hlt, p'⟩, fun x H' y => ?_⟩;obtain ⟨T, x', z', rfl, hT, rfl, hy⟩ := y;obtain ⟨e1, e2⟩ := hy xs zs qa qb;exact hs i x' z' ys _ T e1 e2 hT p
  . have e : i = min xs.length zs.length := by omega
    subst e;exact .inl ⟨⟨xs, zs, qa, qb, by omega⟩, hd ys H p⟩
end
theorem e_slL {K : Fg} {x : V} {lo hi : Option Int} {H : Hp} {Q : VK} : rSlL K x lo hi H Q = ∃ a xs, x = .ref a /\ SqL K H a xs /\ ∀ p, H p = none -> Q (.ref p) (upd H p (.lst (cutV xs lo hi))) := rfl
theorem e_tSl {r : V -> Option Int -> Option Int -> Hp -> VK -> Prop} {te : TE} {tl th : TO} {σ : St} {H : Hp} {Q : VK} : tSl r te tl th σ H Q = te σ H fun x H1 => tl σ H1 fun l H2 => th σ H2 fun u H3 => r x l u H3 Q := rfl
theorem zhj {σ : St} {H : Hp} {Q : Option Int -> Hp -> Prop} : zdh σ H Q = Q none H := rfl
theorem e_part {t : TE} {σ : St} {H : Hp} {Q : Option Int -> Hp -> Prop} : tPart t σ H Q = t σ H fun x H1 => ∃ i, x = .int i /\ Q (some i) H1 := rfl
end L2
namespace L2
open PySem PySem.Spec PyProof.Rows
section
variable {σ : St} {H : Hp} {Q : VK} {a b c : TE} {x : V} {vs : List V} {r r' : R2}
theorem e_pop : rPop x vs H Q = ∃ l xs y, x = .ref l /\ vs = [] /\ H l = some (.lst xs) /\ xs[xs.length - 1]? = some y /\ Q y (upd H l (.lst xs.dropLast)) := rfl
theorem e_BM0 {K : Fg} {T : String} {u : V -> List V -> Hp -> VK -> Prop} : tBM0 K T u a σ H Q = a σ H fun x H1 => tyV K T x H1 /\ u x [] H1 Q := rfl
theorem zir : zav r r' a b c σ H Q = a σ H fun x H1 => b σ H1 fun y H2 => r x y H2 fun z H3 => ∃ k, z = .bl k /\ (if k = true then c σ H3 fun w' H4 => r' y w' H4 Q else Q (.bl false) H3) := rfl
theorem ziz : tDNewK σ H Q = ∀ p, H p = none -> Q (.ref p) (upd H p (.dK [])) := rfl
theorem e_in {K : Fg} {neg : Bool} {y : V} : rIn K neg x y H Q = ∃ p xs, y = .ref p /\ (SqL K H p xs \/ SqT K H p xs) /\ xi x = true /\ xs.all xi = true /\ Q (.bl (if neg then !inV x xs else inV x xs)) H := rfl
end
theorem o0 {X : Cx} {x : Str} {i : Int} {pos : Pos} (hg : Gl X x) (hm : ∃ t, X.mg x = some (Value.int i t)) (hd : (x == ("__debug__" : Str)) = false := by decide) : PE X (.Name x pos) (tC (.int i)) := by
  obtain ⟨t, hm⟩ := hm;exact zdk hg hm ⟨t, rfl⟩ hd
def Its (lo st : Int) (n : Nat) : It := ⟨fun i _ => i < n, fun i H x H' => H' = H /\ x = .int (lo + i * st), fun i _ => n <= i⟩
def iRng3 (ta : TA) : TI := fun σ H R => ta σ H fun vs H1 => ∃ i j k : Int, vs = [.int i, .int j, .int k] /\ (-(2 ^ 61) <= i /\ i < 2 ^ 61 /\ -(2 ^ 61) <= j /\ j < 2 ^ 61 /\ 0 < k /\ k < 2 ^ 30) /\ R (Its i k (Builtin.Range.rangeSize i j k).toNat) H1
theorem e_rng3 {ta : TA} {σ : St} {H : Hp} {R : It -> Hp -> Prop} : iRng3 ta σ H R = ta σ H fun vs H1 => ∃ i j k : Int, vs = [.int i, .int j, .int k] /\ (-(2 ^ 61) <= i /\ i < 2 ^ 61 /\ -(2 ^ 61) <= j /\ j < 2 ^ 61 /\ 0 < k /\ k < 2 ^ 30) /\ R (Its i k (Builtin.Range.rangeSize i j k).toNat) H1 := rfl
def Ite (K : Fg) (a : Addr) : It :=
  ⟨fun i H => ∃ xs x, SqL K H a xs /\ xs[i]? = some x,
   fun i H v H' => ∃ T x, v = .ref T /\ H T = none /\ H' = upd H T (.tup [.int i, x]) /\ ∀ xs, SqL K H a xs -> xs[i]? = some x,
   fun i H => ∃ xs, SqL K H a xs /\ xs.length <= i⟩
def tnEnum (e it l : Addr) (i : Nat) (h : Heap) : Prop := (∃ old, IsEnum h e it i old) /\ h.IsListIter it l i
theorem zfp {P : Program} {w : World} {K : Fg} {elts : List Expr} {x1 : Nat} {pos : Pos} (e it l : Addr) (hne : e ≠ it) :
    Turn P w K (.Tuple elts x1 pos) (Ite K l) [e, it] e (tnEnum e it l) where
  mem := by simp
  obj := fun i h st b hb => by
    obtain ⟨⟨old, he⟩, ⟨o1, e1, c1, d1⟩⟩ := st;simp only [ZK, Zx, or_false] at hb
    rcases hb with rfl | rfl
    . exact ⟨_, he, fun v q => by cases q⟩
    . exact ⟨o1, e1, fun v q => by rw [d1] at q; cases q⟩
  keep := fun i h h' st k => by
    obtain ⟨⟨old, he⟩, h1⟩ := st;exact ⟨⟨old, k e (by simp) _ he⟩, h1.at fun o q => k it (by simp) o q⟩
  item := by
    intro X hP hw hK hc i pins s σ H E I hf st hg;subst hP hw hK;obtain ⟨xs, x, qa, hx⟩ := hg;obtain ⟨us, ru, pu, zu⟩ := I.list qa;obtain ⟨u, hu, rxu⟩ := ru.get hx;obtain ⟨⟨old, he⟩, h1⟩ := id st;refine wpAny_pyNext_enum_item he h1 pu.isList (x := u) (by simpa using hu) hne fun h' a1 a2 a3 a4 hk => ?_
    have ltT : ∀ {c o}, s.heap.get? c = some o -> c ≠ s.heap.objs.size := fun q => Zs (Heap.lt_size q)
    have hit1 : it ≠ s.heap.objs.size := by obtain ⟨_, q, _⟩ := h1; exact ltT q
    have hTe : s.heap.objs.size ≠ e := Ne.symm (ltT he);refine ⟨_, rfl, wpAny_letOwnedTupleGo_enum (s := { s with heap := h', toks := s.toks + 1 }) a1 fun h'' b1 sb => ?_⟩
    have I1 : Inv X pins σ (upd H s.heap.objs.size (.tup [.int i, x])) { s with heap := h'', toks := s.toks + 1 } := I.turnedLaid (ch := [e, it]) hf (fun b o hb q => by
      simp only [ZK, Zx, or_false, not_or] at hb
      exact sb.extBut b o hb.1 (hk b o hb.1 hb.2 q)) (Zm _) ⟨by show 2 <= sizeLine; decide, [.int i s.toks, u], .cons ⟨_, rfl⟩ (.cons rxu .nil), by
        have q := sb.extBut _ _ hTe a3
        exact ⟨_, q, rfl, _, rfl, rfl⟩⟩
    refine ⟨.ref s.heap.objs.size, _, I1, rfl, ⟨s.heap.objs.size, x, rfl, I.hok.fresh (Zm _), rfl, fun xs' q1 => ?_⟩, ?_, fun b hb => ?_⟩
    . rw [I.list_inj q1 qa]
      exact hx
    . refine ⟨⟨u, ?_⟩, a2.extBut sb.extBut (Ne.symm hne)⟩
      have z : ((i + 1 : Nat) : Int) = (i : Int) + 1 := by omega
      rw [z];exact b1
    . have hb' := (hf b hb).1
      rw [zr ?_]
      . exact hb'
      . simp only [ZK, Zx, or_false] at hb
        rcases hb with rfl | rfl
        . exact Ne.symm hTe
        . exact hit1
  done := by
    intro X hP hw hK hc i pins s σ H E I hf st hg;subst hP hw hK;obtain ⟨xs, qa, hend⟩ := hg;obtain ⟨us, ru, pu, zu⟩ := I.list qa;obtain ⟨⟨old, he⟩, h1⟩ := id st;have l1' := ru.length;obtain ⟨f0, f1, f2, f3, f4, f5⟩ := hf it (by simp);exact wpAny_pyNext_enum_end (I.ok.hd hc) he h1 pu.isList (by simp; omega) fun h' eb => ⟨rfl, I.turned (t' := s.toks) (fun b o hb q => eb b o hb q) f0 f1 f3 f4 f5⟩
  self := fun _ _ _ _ _ st h => by
    obtain ⟨⟨old, he⟩, _⟩ := st;exact wpAny_pyIter_enum he h
def iEnum (K : Fg) (ta : TA) : TI := fun σ H R => ta σ H fun vs H1 => ∃ a, vs = [.ref a] /\ (∃ xs, SqL K H1 a xs) /\ R (Ite K a) H1
theorem e_enum {K : Fg} {ta : TA} {σ : St} {H : Hp} {R : It -> Hp -> Prop} : iEnum K ta σ H R = ta σ H fun vs H1 => ∃ a, vs = [.ref a] /\ (∃ xs, SqL K H1 a xs) /\ R (Ite K a) H1 := rfl
theorem jv {X : Cx} {a : Expr} {ta : TA} {p pos tpos : Pos} {elts : List Expr} {x1 : Nat} (hg : Gl X "enumerate") (hm : X.mg "enumerate" = none) (ha : PA X [a] ta) (hs : starEach [a] X.env = [(false, eval a X.env)] := by rfl) :
    PI X (.Tuple elts x1 tpos) (.Call (.Name "enumerate" p) [a] [] pos) (iEnum X.K ta) := by
  intro pins s σ H R I h;refine Call_ (ui I hg hm zad (PyProof.Rows.callWith_type1 (thn (ha pos pins s σ H _ I h) fun us s1 ⟨vs, H1, I1, r1, q1⟩ => ?_) hs rfl));obtain ⟨a, e, ⟨xs, qa⟩, q⟩ := q1;subst e;obtain ⟨u, rfl, ru⟩ := Vals.one r1;cases ru;obtain ⟨its, _, pa, _⟩ := I1.list qa;refine call_enumerate_list pa.isList fun h' z1 z2 z3 kp => ?_
  refine wpAny_pyIter_enum (s := { s1 with heap := h' }) z1 ?_;have I2 : Inv X pins σ H1 { s1 with heap := h' } := I1.kept (t' := s1.toks) kp;refine ⟨s1.heap.objs.size + 1, [s1.heap.objs.size + 1, s1.heap.objs.size], _, _, H1, rfl, I2, zfp _ _ a (by show (_ : Nat) ≠ _; omega), ⟨⟨_, z1⟩, z2⟩, fun c hc => ?_, q⟩
  have hle : s1.heap.objs.size <= c := by
    simp only [ZK, Zx, or_false] at hc
    rcases hc with h | h <;> (rw [h]; omega)
  exact I1.fpOk hle (I1.hok.fresh hle)
theorem zht {K : Fg} {a : Addr} {xs : List V} {g : TG} {tb : TS} {D : Ends} {σ : St} {H : Hp} (Pv : Nat -> St -> Hp -> Prop) (h0 : Pv 0 σ H) (hl : ∀ i σ H, i <= xs.length -> Pv i σ H -> SqL K H a xs)
    (hs : ∀ i x σ H T, xs[i]? = some x -> H T = none -> Pv i σ H -> g (.ref T) σ (upd H T (.tup [.int i, x])) fun σ2 H2 => tb { D with nx := Pv (i + 1), ct := Pv (i + 1), bk := D.nx } σ2 H2)
    (hd : ∀ σ H, Pv xs.length σ H -> D.nx σ H) : ForW (Ite K a) g tb D σ H := by
  refine ⟨fun i m σ H => m = xs.length - i /\ i <= xs.length /\ Pv i σ H, ⟨xs.length, by simp, ZE _, h0⟩, ?_⟩
  rintro i m σ H ⟨rfl, hi, p⟩
  have q := hl i σ H hi p
  by_cases hlt : i < xs.length
  . refine .inr ⟨⟨xs, xs[i], q, by simp [hlt]⟩, Pv (i + 1), fun σ' H' p' => ⟨xs.length - (i + 1), by omega, rfl, hlt, p'⟩, fun x H' y => ?_⟩
    obtain ⟨T, x', rfl, hT, rfl, hy⟩ := y;exact hs i x' σ _ T (hy xs q) hT p
  . have e : i = xs.length := by omega
    subst e;exact .inl ⟨⟨xs, q, Zm _⟩, hd σ H p⟩
section
variable {X : Cx}
end
section
variable {X : Cx}
end
end L2
namespace L2
open PySem PySem.Spec PyProof.Rows
section
variable {X : Cx} {pins : List (Addr × Obj)} {σ : St} {H : Hp} {k : Nat} {f : Addr} {fd : FuncData} {ps : List Str} {sp : Sp}
theorem zaj {s : Shared} {fp : List Addr} {x : V} {u : Value} {n : Int} {Q : Value -> Shared -> Prop} {E : Value -> Shared -> Prop} (F : FnOk X.prog X.w X.K X.mg X.base CX0 k f fd ps sp) (hb : Binds X.K fd ps []) (hr : Room k X.A.in1)
    (I : Inv X pins σ H s) (hf : ∀ b ∈ fp, FpOk X pins H b) (ho : ∀ b ∈ fp, ∃ o, s.heap.get? b = some o /\ ∀ v, o.data ≠ .cell v) (rx : RelV x u)
    (h : sp [x] H (fun v H' => v = .int n /\ H' = H) E0)
    (q : ∀ t s', Inv X pins σ H s' -> (∀ b ∈ fp, ∀ o, s.heap.get? b = some o -> s'.heap.get? b = some o) -> Q (.int n t) s') :
    wpAny (model X.prog X.w) X.A.in1 (call (.ref f) [u]) Q E s := by
  have I1 := I.pinned hf ho;have hl : [u].length = ps.length := F.len [x] _ _ _ h;refine wpAny_call (codeAny_mono (F.run X.A.in1 X.stack s H ⟨[u], []⟩ [u] [x] _ E0 hr I1.env0.in1 (hb s [u] I.kIn hl) (.cons rx .nil) h) fun r s' hq => ?_)
  cases r with
  | error e => exact hq.elim
  | ok fl =>
    cases fl with
    | ret u' =>
      obtain ⟨v, H', I2, rv, e1, e2⟩ := I1.after hq;subst e1 e2;obtain ⟨t, rfl⟩ := rv;refine q t s' I2.unpinned fun b hb o e => ?_
      exact (I2.pin (b, o) (Zu _ (Zu _ (vj hb e)))).1
    | next => exact False.elim hq
    | brk => exact False.elim hq
    | cont => exact False.elim hq
theorem Inv.turned1 {s : Shared} {h' : Heap} {it : Addr} {t' : Nat} (I : Inv X pins σ H s) (hf : FpOk X pins H it) (k : ∀ b o, b ≠ it -> s.heap.get? b = some o -> h'.get? b = some o) : Inv X pins σ H { s with heap := h', toks := t' } := by
  obtain ⟨f0, f1, f2, f3, f4, f5⟩ := hf;exact I.turned k f0 f1 f3 f4 f5
theorem zfi (kf : Nat -> Int) {l I0 S : Addr} {xs : List V} {R : Result -> Shared -> Prop} (hc : X.calm = true) (F : FnOk X.prog X.w X.K X.mg X.base CX0 k f fd ps sp) (hb : Binds X.K fd ps []) (hr : Room k X.A.in1)
    (hlI : l ≠ I0) (hlS : l ≠ S) (hSI : S ≠ I0) (hl : SqL X.K H l xs) (fS : FpOk X pins H S) (fI : FpOk X pins H I0)
    (turn : ∀ i x, xs[i]? = some x -> sp [x] H (fun v H' => v = .int (kf i) /\ H' = H) E0)
    (hR : ∀ i x u s', xs[i]? = some x -> RelV x u -> (∀ j, j < xs.length -> kf i <= kf j /\ (j < i -> kf i < kf j)) -> Inv X pins σ H s' -> R (.ok (.ret u)) s') :
    ∀ (r j i : Nat) (s : Shared) (x : V) (vb : Value) (tb : Tok) (c : Nat), xs.length - (j + 1) = r -> j + 1 <= xs.length -> Inv X pins σ H s -> s.heap.get? S = some (seqObj "list" #[vb, .int (kf i) tb] c) ->
      s.heap.IsListIter I0 l (j + 1) -> xs[i]? = some x -> RelV x vb -> i <= j -> (∀ j', j' <= j -> kf i <= kf j' /\ (j' < i -> kf i < kf j')) ->
      codeAny (model X.prog X.w) X.A (.builtin "min.loop" ⟨[.ref I0, .ref f, .ref S], []⟩) R s := by
  have hname : (toString "min" ++ toString ".loop" : String) = "min.loop" := by decide
  intro r
  induction r with
  | zero =>
    intro j i s x vb tb c hr' hj I hS hit hx rx hij hbest;have hin : j + 1 = xs.length := by omega
    obtain ⟨its, rv, pl, hz⟩ := I.list hl;have hlen := rv.length;have W := Walks.list (prog := X.prog) (w := X.w) (A := X.A.in1) (I.ok.hd hc) I0 l hlI its.toArray;refine codeAny_builtin PySem.F.entry_min_loop ?_;rw [Around.under_plainId PySem.F.plain_min_loop _]
    show wpAny _ X.A.in1 (seqItems? (.ref S) >>= _) _ _ _
    refine wpAny_bind (wpAny_seqItems hS rfl ?_)
    show wpAny _ X.A.in1 (tryCatch (pyNext (.ref I0)) _ >>= _) _ _ _
    refine wpAny_bind (wpAny_tryCatch (W.done _ _ _ ⟨by rw [Zr, <- hlen, <- hin]; exact hit, pl.isList⟩ fun h' tk' hk' => ?_));have I1 : Inv X pins σ H { s with heap := h', toks := tk' } := I.turned1 fI fun b o hb e => hk' b o (by simpa using hb) e
    have hS' := hk' S _ (by simpa using hSI) hS;have s1 := Heap.SameBut.update h' S (Obj.mapSeq fun _ => (#[] : Array Value))
    show wpAny _ X.A.in1 (updateSeq S (fun _ => #[]) >>= _) _ _ _
    refine wpAny_bind ?_;refine wpAny_updateSeq hS' rfl (wpAny_bind (wpAny_letGo (wpAny_pure ?_)));exact hR i x vb _ hx rx (fun j' hj' => hbest j' (by omega)) (I1.turned1 (t' := tk') fS fun b o hb e => (s1.2 b hb).trans e)
  | succ r ih =>
    intro j i s x vb tb c hr' hj I hS hit hx rx hij hbest;have hlt : j + 1 < xs.length := by omega
    obtain ⟨its, rv, pl, hz⟩ := I.list hl;have hlen := rv.length;have W := Walks.list (prog := X.prog) (w := X.w) (A := X.A.in1) (I.ok.hd hc) I0 l hlI its.toArray;refine codeAny_builtin PySem.F.entry_min_loop ?_;rw [Around.under_plainId PySem.F.plain_min_loop _]
    show wpAny _ X.A.in1 (seqItems? (.ref S) >>= _) _ _ _
    refine wpAny_bind (wpAny_seqItems hS rfl ?_)
    show wpAny _ X.A.in1 (tryCatch (pyNext (.ref I0)) _ >>= _) _ _ _
    refine wpAny_bind (wpAny_tryCatch (W.item (j + 1) _ _ _ (by rw [Zr, <- hlen]; exact hlt) ⟨hit, pl.isList⟩ fun v h' tk' hP hst' hk' => ?_));have hv : its[j + 1]? = some v := by simpa using hP
    have ey : xs[j + 1]? = some xs[j + 1] := by simp [hlt]
    obtain ⟨v', hv', ry⟩ := rv.get ey;rw [hv] at hv';cases hv';have I1 : Inv X pins σ H { s with heap := h', toks := tk' } := I.turned1 fI fun b o hb e => hk' b o (by simpa using hb) e
    have hS' := hk' S _ (by simpa using hSI) hS;obtain ⟨oI', hoI', hoc, hod⟩ := id hst'.1
    show wpAny _ X.A.in1 (tryCatch (holding [v] (call (.ref f) [v])) _ >>= _) _ _ _
    refine wpAny_bind (wpAny_tryCatch (wpAny_holding (zaj (fp := [S, I0]) F hb hr I1 (fun b hb => ?_) (fun b hb => ?_) ry (turn (j + 1) _ ey) fun t2 s2 I2 kp => ?_)))
    . simp only [ZK, Zx, or_false] at hb
      rcases hb with rfl | rfl
      . exact fS
      . exact fI
    . simp only [ZK, Zx, or_false] at hb
      rcases hb with rfl | rfl
      . exact ⟨_, hS', fun v q => by cases q⟩
      . exact ⟨oI', hoI', fun v q => by rw [hod] at q; cases q⟩
    have nS2 := kp S (by simp) _ hS';have nI2 := kp I0 (by simp) _ hoI';have hit2 : s2.heap.IsListIter I0 l (j + 1 + 1) := ⟨oI', nI2, hoc, hod⟩
    show wpAny _ X.A.in1 (tryCatch (holding [v, .int (kf (j + 1)) t2] (richCompare .Lt (.int (kf (j + 1)) t2) (.int (kf i) tb) >>= _)) _ >>= _) _ _ _
    refine wpAny_bind (wpAny_tryCatch (wpAny_holding (wpAny_bind (CmpOf.ints_lt (prog := X.prog) (w := X.w) (A := X.A.in1) (P := fun i v => ∃ t, v = .int (kf i) t) kf (fun i v h => h) (j + 1) i _ _ _ _ _ ⟨t2, rfl⟩ ⟨tb, rfl⟩ ?_))));refine wpAny_bind (wpAny_holding (wpAny_truthy_bool ?_));refine wpAny_bind (wpAny_letGo (wpAny_pure ?_))
    by_cases hb' : kf (j + 1) < kf i
    . have s1 := Heap.SameBut.update s2.heap S (Obj.mapSeq fun _ => #[v, .int (kf (j + 1)) t2])
      obtain ⟨c2, hc2⟩ : ∃ c2, (s2.heap.update S (Obj.mapSeq fun _ => #[v, .int (kf (j + 1)) t2])).get? S = some (seqObj "list" #[v, .int (kf (j + 1)) t2] c2) := ⟨_, get?_update_seq nS2 fun _ => #[v, .int (kf (j + 1)) t2]⟩;simp only [hb', decide_true, if_true];refine wpAny_bind ?_;refine wpAny_updateSeq nS2 rfl (wpAny_bind (wpAny_letGo ?_));rw [hname];refine wpAny_pure ⟨plainId_quiet PySem.F.plain_min_loop _, ih (j + 1) (j + 1) _ _ v t2 c2 (by omega) hlt (I2.turned1 (t' := s2.toks) fS fun b o hb e => (s1.2 b hb).trans e) hc2 ⟨oI', (s1.2 I0 hSI.symm).trans nI2, hoc, hod⟩ ey ry (Zm _) fun j' hj' => ?_⟩
      by_cases e : j' = j + 1
      . subst e
        exact ⟨by omega, fun _ => by omega⟩
      . have hb1 := hbest j' (by omega)
        have hb2 := hb1.1;exact ⟨by omega, fun _ => by omega⟩
    . simp only [hb', decide_false, Bool.false_eq_true, if_false]
      refine wpAny_bind (wpAny_letGo ?_);rw [hname];refine wpAny_pure ⟨plainId_quiet PySem.F.plain_min_loop _, ih (j + 1) i s2 x vb tb c (by omega) hlt I2 nS2 hit2 hx rx (by omega) fun j' hj' => ?_⟩
      by_cases e : j' = j + 1
      . subst e
        exact ⟨by omega, fun _ => by omega⟩
      . exact hbest j' (by omega)
theorem zhm (kf : Nat -> Int) {s : Shared} {l : Addr} {xs : List V} {Q : VK} {E : Value -> Shared -> Prop} (hc : X.calm = true) (F : FnOk X.prog X.w X.K X.mg X.base CX0 k f fd ps sp) (hb : Binds X.K fd ps []) (hr : Room k X.A.in1)
    (I : Inv X pins σ H s) (hl : SqL X.K H l xs) (hne : 0 < xs.length)
    (turn : ∀ i x, xs[i]? = some x -> sp [x] H (fun v H' => v = .int (kf i) /\ H' = H) E0)
    (hQ : ∀ i x, xs[i]? = some x -> (∀ j, j < xs.length -> kf i <= kf j /\ (j < i -> kf i < kf j)) -> Q x H) :
    wpAny (model X.prog X.w) X.A (call (.builtin "min") [.ref l] [(Str.ofString "key", .ref f)]) (EP X pins σ Q) E s := by
  have hname : (toString "min" ++ toString ".loop" : String) = "min.loop" := by decide
  obtain ⟨its, rv, pl, hz⟩ := I.list hl;have hlen := rv.length;have hls := pl.isList;obtain ⟨ol, hol, _⟩ := id hls;have hll : l < s.heap.objs.size := Heap.lt_size hol;refine kmk_tree PySem.F.kind_min PySem.F.plain_min PySem.F.entry_min (kmk_min_key _ _) ?_
  show wpAny _ X.A.in1 (Builtin.Builtins.bindParams "min" ["key", "default"] 0 ⟨[], [(Str.ofString "key", .ref f)]⟩ >>= _) _ _ s
  refine wpAny_bind (wpAny_of_eq (show Builtin.Builtins.bindParams "min" ["key", "default"] 0 ⟨[], [(Str.ofString "key", .ref f)]⟩ = pure [some (.ref f), none] from rfl) ?_);refine wpAny_bind (wpAny_pure ?_);refine wpAny_bind (wpAny_pyIter_list hls ?_);refine wpAny_bind (wpAny_newList ?_ (ZE _));rw [hname];generalize hP : s.heap.push { cls := .type "list_iterator", data := .fields #[.ref l, .int 0 0] } = HP;have hS : HP.objs.size = s.heap.objs.size + 1 := by rw [<- hP]; exact size_push' ..
  have hlI : l ≠ s.heap.objs.size := Zs hll;have hSI : HP.objs.size ≠ s.heap.objs.size := by rw [hS]; exact ZR (Yz _)
  have hlS : l ≠ HP.objs.size := by rw [hS]; exact Zs (Yg hll)
  refine wpAny_pure ⟨plainId_quiet PySem.F.plain_min_loop _, ?_⟩;have old : ∀ b o, s.heap.get? b = some o -> (HP.push (seqObj "list" #[] 0)).get? b = some o := fun b o e => Heap.get?_push_of_some _ (by rw [<- hP]; exact Heap.get?_push_of_some _ e)
  have I0 : Inv X pins σ H { s with heap := HP.push (seqObj "list" #[] 0), toks := s.toks } := I.kept old
  have gI : (HP.push (seqObj "list" #[] 0)).get? s.heap.objs.size = some { cls := .type "list_iterator", data := .fields #[.ref l, .int 0 0] } :=
    Heap.get?_push_of_some _ (by rw [<- hP]; exact Heap.get?_push_size _ rfl)
  have gS : (HP.push (seqObj "list" #[] 0)).get? HP.objs.size = some (seqObj "list" #[] 0) := Heap.get?_push_size _ rfl;have fI : FpOk X pins H s.heap.objs.size := I.fpOk (Zm _) (I.hok.fresh (Zm _));have fS : FpOk X pins H HP.objs.size := I.fpOk (by rw [hS]; exact Yx _) (I.hok.fresh (by rw [hS]; exact Yx _));have W := Walks.list (prog := X.prog) (w := X.w) (A := X.A.in1) (I.ok.hd hc) s.heap.objs.size l hlI its.toArray;refine codeAny_builtin PySem.F.entry_min_loop ?_;rw [Around.under_plainId PySem.F.plain_min_loop _]
  show wpAny _ X.A.in1 (seqItems? (.ref _) >>= _) _ _ _
  refine wpAny_bind (wpAny_seqItems gS rfl ?_)
  show wpAny _ X.A.in1 (tryCatch (pyNext (.ref s.heap.objs.size)) _ >>= _) _ _ _
  have hlist : (HP.push (seqObj "list" #[] 0)).IsList l its.toArray := by
    obtain ⟨o, e, r⟩ := hls;exact ⟨o, old l o e, r⟩
  refine wpAny_bind (wpAny_tryCatch (W.item 0 _ _ _ (by rw [Zr, <- hlen]; exact hne) ⟨⟨_, gI, rfl, rfl⟩, hlist⟩ fun v h' tk' hP' hst' hk' => ?_));have hv : its[0]? = some v := by simpa using hP'
  have ey : xs[0]? = some xs[0] := by simp [hne]
  obtain ⟨v', hv', ry⟩ := rv.get ey;rw [hv] at hv';cases hv';have I1 : Inv X pins σ H { s with heap := h', toks := tk' } := I0.turned1 fI fun b o hb e => hk' b o (by simpa using hb) e
  have hS' := hk' HP.objs.size _ (by simpa using hSI) gS;obtain ⟨oI', hoI', hoc, hod⟩ := id hst'.1
  show wpAny _ X.A.in1 (tryCatch (holding [v] (call (.ref f) [v])) _ >>= _) _ _ _
  refine wpAny_bind (wpAny_tryCatch (wpAny_holding (zaj (fp := [HP.objs.size, s.heap.objs.size]) F hb hr I1 (fun b hb => ?_) (fun b hb => ?_) ry (turn 0 _ ey) fun t2 s2 I2 kp => ?_)))
  . simp only [ZK, Zx, or_false] at hb
    rcases hb with rfl | rfl
    . exact fS
    . exact fI
  . simp only [ZK, Zx, or_false] at hb
    rcases hb with rfl | rfl
    . exact ⟨_, hS', fun v q => by cases q⟩
    . exact ⟨oI', hoI', fun v q => by rw [hod] at q; cases q⟩
  have nS2 := kp HP.objs.size (by simp) _ hS';have nI2 := kp s.heap.objs.size (by simp) _ hoI';have s1 := Heap.SameBut.update s2.heap HP.objs.size (Obj.mapSeq fun _ => #[v, .int (kf 0) t2]);obtain ⟨c2, hc2⟩ : ∃ c2, (s2.heap.update HP.objs.size (Obj.mapSeq fun _ => #[v, .int (kf 0) t2])).get? HP.objs.size = some (seqObj "list" #[v, .int (kf 0) t2] c2) := ⟨_, get?_update_seq nS2 fun _ => #[v, .int (kf 0) t2]⟩
  show wpAny _ X.A.in1 (updateSeq HP.objs.size (fun _ => #[v, .int (kf 0) t2]) >>= _) _ _ _
  refine wpAny_bind ?_;refine wpAny_updateSeq nS2 rfl ?_;rw [hname];refine wpAny_pure ⟨plainId_quiet PySem.F.plain_min_loop _, zfi kf hc F hb hr hlI hlS hSI hl fS fI turn (fun i x u s' h1 h2 h3 h4 => ⟨x, H, h4, h2, hQ i x h1 h3⟩) _ 0 0 _ _ v t2 c2 rfl hne (I2.turned1 (t' := s2.toks) fS fun b o hb e => (s1.2 b hb).trans e) hc2 ⟨oI', (s1.2 _ hSI.symm).trans nI2, hoc, hod⟩ ey ry (Zm _) fun j' hj' => ?_⟩;have e : j' = 0 := by omega
  subst e;exact ⟨by omega, fun _ => by omega⟩
def tMinK (K : Fg) (sp : Sp) (ta : TA) : TE := fun σ H Q => ta σ H fun vs H1 => ∃ (l : Addr) (xs : List V) (kf : Nat -> Int), vs = [.ref l] /\ SqL K H1 l xs /\ 0 < xs.length /\
  (∀ i x, xs[i]? = some x -> sp [x] H1 (fun v H' => v = .int (kf i) /\ H' = H1) E0) /\ ∀ i x, xs[i]? = some x -> (∀ j, j < xs.length -> kf i <= kf j /\ (j < i -> kf i < kf j)) -> Q x H1
theorem e_minK {K : Fg} {ta : TA} {Q : VK} : tMinK K sp ta σ H Q = ta σ H fun vs H1 => ∃ (l : Addr) (xs : List V) (kf : Nat -> Int), vs = [.ref l] /\ SqL K H1 l xs /\ 0 < xs.length /\
  (∀ i x, xs[i]? = some x -> sp [x] H1 (fun v H' => v = .int (kf i) /\ H' = H1) E0) /\ ∀ i x, xs[i]? = some x -> (∀ j, j < xs.length -> kf i <= kf j /\ (j < i -> kf i < kf j)) -> Q x H1 := rfl
theorem zdp {y : Str} {e : Expr} {t : TA} {p p2 pos kpos : Pos} (F : FnAt X.prog X.w X.K X.mg X.base y k ps sp) (hr : Room (k + 1) X.A) (hc : X.calm = true) (hgm : Gl X "min") (hm : X.mg "min" = none) (hg : Gl X y) (ha : PA X [e] t)
    (hdb : (y == ("__debug__" : Str)) = false := by decide)
    (he : backTo pos (starEach [e] X.env) = (false, eval e X.env) :: backTo pos (starEach [] X.env) := by rfl) (hpl : (backTo pos (starEach [e] X.env)).any (·.1) = false := by rfl) :
    PE X (.Call (.Name "min" p) [e] [⟨some (Str.ofString "key"), .Name y p2, kpos⟩] pos) (tMinK X.K sp t) := by
  intro pins s σ H Q I h;obtain ⟨f, fd, hmy, hk, hb, G⟩ := F.ex;refine wpAny_Call_Name_kw (ui I hgm hm zfn ?_);refine PyProof.Rows.callWith_kw (thn (ha pos pins s σ H _ I h) fun us s1 ⟨vs, H1, I1, r1, q1⟩ => ?_) he hpl rfl rfl;obtain ⟨l, xs, kf, ev, hl, hne, turn, q⟩ := q1;subst ev;obtain ⟨u, rfl, ru⟩ := Vals.one r1;cases ru;refine thn ((zjb (nm := some (Str.ofString "key")) (kpos := kpos) (zdk (v := .ref f) hg hmy rfl hdb) pk_nil) pos pins s1 σ H1 (fun zs H2 => zs = [.ref f] /\ H2 = H1) I1 ⟨rfl, rfl⟩) fun ws s2 ⟨zs, H2, I2, rz, ez, eh⟩ => ?_
  subst ez eh;obtain ⟨w1, rfl, rw1⟩ := Vals.one rz;cases rw1;exact zhm kf hc G hb hr.in1 I2 hl hne turn q
end
end L2
namespace L2
open PySem PySem.Spec PyProof.Rows
def CX1 (P : Program) (w : World) : CXT := fun outer H s E e s' => ∃ (ea C : Addr) (a0 : Value) (B : Heap) (H' : Hp), e = .ref ea /\ s'.os = s.os /\ AllBare s'.gens /\ Un (frs outer) [] H H' s.heap s'.heap /\ HOk P w H' s'.heap /\
  Heap.FlyingW B outer ea (.ref C) a0 s'.heap /\ H' ea = none /\ (∀ b o, H' b = some o -> ∃ ob, B.get? b = some ob) /\ (∀ b o, s.heap.get? b = some o -> b ∉ frs outer -> ∃ ob, B.get? b = some ob /\ (H b = none -> ob = o)) /\ E (.ref C) none H'
theorem pass1 {P : Program} {w : World} {X : Cx} : jr (CX1 P w) X E0 := fun _ _ _ _ _ _ _ h => by
  obtain ⟨_, _, _, _, _, _, _, _, _, _, _, _, _, _, z⟩ := h;exact z.elim
theorem HOk.flown {P : Program} {w : World} {H : Hp} {h h' B : Heap} (x : HOk P w H h) (bh : B.StaysIn h) (bh' : B.StaysIn h') (dom : ∀ b o, H b = some o -> ∃ ob, B.get? b = some ob) : HOk P w H h' := fun a o e =>
  (x a o e).stay (fun b u hb q => by
    have hB : ∃ ob, B.get? b = some ob := by
      rcases hb with rfl | hb
      . exact dom _ _ e
      . exact dom _ _ hb
    obtain ⟨ob, hob⟩ := hB;have := bh b ob hob;rw [q] at this;cases this
    exact bh' b u hob) (fun _ q => q) fun _ _ q => q
theorem gd {P : Program} {w : World} {H : Hp} {h : Heap} {a : Addr} {o : HO} (x : ObjOk P w H h a o) : ∃ ob, h.get? a = some ob := by
  cases o with
  | lst xs => obtain ⟨_, _, _, _, e⟩ := x; exact ⟨_, e⟩
  | tup xs => obtain ⟨_, _, _, o, e, _⟩ := x; exact ⟨_, e⟩
  | dK kvs => obtain ⟨_, _, _, _, o, _, _, e, _⟩ := x; exact ⟨_, e⟩
  | dT kvs => obtain ⟨_, _, _, _, o, _, _, e, _⟩ := x; exact ⟨_, e⟩
  | set S n => obtain ⟨o, _, _, _, e, _⟩ := x; exact ⟨_, e⟩
  | ins C dx fs => obtain ⟨_, _, _, e, _⟩ := x; exact ⟨_, e⟩
  | own y => exact x
  | xd fs => obtain ⟨_, ⟨_, _, _, e, _⟩, _⟩ := x; exact ⟨_, e⟩
  | rng lo hi => obtain ⟨_, _, _, e⟩ := x; exact ⟨_, e⟩
  | frz ob u => obtain ⟨e, _⟩ := x; exact ⟨_, e⟩
  | tbl ps => exact ⟨_, (show h.get? a = some _ from x)⟩
  | met f y => exact ⟨_, (show h.get? a = some _ from x)⟩
  | ext φ => obtain ⟨_, e, _⟩ := x; exact e
section
variable {X : Cx} {pins : List (Addr × Obj)} {σ : St} {H : Hp} {s : Shared}
theorem zab {fs : List Addr} {H0 H1 : Hp} {h0 h1 h2 B : Heap} (u : Un fs [] H0 H1 h0 h1) (dom2 : ∀ b o, h0.get? b = some o -> b ∉ fs -> ∃ ob, B.get? b = some ob /\ (H0 b = none -> ob = o))
    (bh' : B.StaysIn h2) (sl : h1.UpToSlots h2) (hfr : ∀ b ∈ fs, ∀ o, h1.get? b = some o -> ∀ vs, o.data ≠ .fields vs) : Un fs [] H0 H1 h0 h2 where
  keep := fun b o e n hb _ => by
    obtain ⟨ob, e1, e2⟩ := dom2 b o e hb;rw [e2 n] at e1;exact bh' b o e1
  slot := fun b o e n hb hx => by
    obtain ⟨s1, e1⟩ := u.slot b o e n hb hx;obtain ⟨s2, e2⟩ := sl b _ e1 (hfr b hb _ e1);exact ⟨s2, e2⟩
  free := u.free
  there := fun b o e hx => by
    by_cases hb : b ∈ fs
    . obtain ⟨o1, e1⟩ := u.there b o e hx
      obtain ⟨s2, e2⟩ := sl b _ e1 (hfr b hb _ e1);exact ⟨_, e2⟩
    . obtain ⟨ob, e1, _⟩ := dom2 b o e hb
      exact ⟨ob, bh' b ob e1⟩
  tups := u.tups
  frzs := u.frzs
  tbls := u.tbls
theorem zbs {P : Program} {w : World} {K : Fg} {mg : Str -> Option Value} {base : Heap} {N : List Str} {qual : Str} {scope : Scope} {f : Addr} {cd : Value} {A : Around} {outer : List Env} {s0 : Shared} {H0 : Hp} {E : XK} {h' : Heap} {e C : Addr} {args : List Value}
    (hX : X = cxOf (CX1 P w) P w K mg base N qual scope f cd A outer s0 H0 E) (I : Inv X pins σ H s) (hx : Heap.MadeExcOf s.heap h' e (.ref C) args) (hE : E (.ref C) none H) (tk : Nat) : X.xe (.ref e) { s with heap := h', toks := tk } := by
  subst hX
  show wpAny _ _ (leaving _ (.ref e)) _ _ _
  have hst : s.heap.FunFrames base (envOfC qual scope s0.heap.objs.size f cd :: outer) := I.stack;have hin : ∀ env ∈ (envOfC qual scope s0.heap.objs.size f cd :: outer), ∀ b, env.frame = some b -> b ∈ (envOfC qual scope s0.heap.objs.size f cd :: outer).filterMap (·.frame) := fun env he b hb => ZX.mpr ⟨env, he, hb⟩
  have getB : ∀ b o, s.heap.get? b = some o -> b ∉ (envOfC qual scope s0.heap.objs.size f cd :: outer).filterMap (·.frame) -> (PySem.W.hideAll s.heap ((envOfC qual scope s0.heap.objs.size f cd :: outer).filterMap (·.frame))).get? b = some o := fun b o q n => PySem.W.hideAll_get _ q n
  refine wpAny_leaves_madeW (s := { s with heap := h', toks := tk }) (h := s.heap) I.ok.frames rfl (fun b o q => PySem.W.of_hideAll _ q) (PySem.W.funFrames_hide hst hin) hx fun h'' t x1 x2 x3 x4 => ?_
  have dom : ∀ b o, H b = some o -> ∃ ob, (PySem.W.hideAll s.heap ((envOfC qual scope s0.heap.objs.size f cd :: outer).filterMap (·.frame))).get? b = some ob := fun b o q => by
    have hlt := I.hok.lt q
    have hnf : b ∉ (envOfC qual scope s0.heap.objs.size f cd :: outer).filterMap (·.frame) := fun z => by
      have := I.stkFree b z;rw [q] at this; cases this
    obtain ⟨ob, hob⟩ := gd (I.hok b o q);exact ⟨ob, getB b ob hob hnf⟩
  have un : Un (frs outer) [] H0 H s0.heap s.heap := I.base
  have dom2 : ∀ b o, s0.heap.get? b = some o -> b ∉ frs outer -> ∃ ob, (PySem.W.hideAll s.heap ((envOfC qual scope s0.heap.objs.size f cd :: outer).filterMap (·.frame))).get? b = some ob /\ (H0 b = none -> ob = o) := fun b o q n => by
    have hnf : b ∉ (envOfC qual scope s0.heap.objs.size f cd :: outer).filterMap (·.frame) := fun z => by
      rcases ZK.mp (I.stkSub b z) with y | y
      . have h1 : s0.heap.objs.size <= b := by rw [y]; exact I.ok.above
        exact absurd (Zh (Heap.lt_size q) h1) (ZJ _)
      . exact n y
    obtain ⟨o1, e1⟩ := un.there b o q (by simp);refine ⟨o1, getB b o1 e1 hnf, fun z => ?_⟩;have := un.keep b o q z n (by simp);rw [e1] at this;exact Option.some.inj this
  have hfr : ∀ b ∈ frs outer, ∀ o, s.heap.get? b = some o -> ∀ vs, o.data ≠ .fields vs := fun b hb o q => by
    obtain ⟨_, o', e', n'⟩ := hst.mem (b := b) (by
      obtain ⟨env, he, hf⟩ := ZX.mp hb
      exact ZX.mpr ⟨env, Zv _ he, hf⟩)
    rw [q] at e'; cases e';exact n'
  have sl : s.heap.UpToSlots h'' := (Heap.UpToSlots.of_keeps hx.keeps).trans x4;refine ⟨e, C, _, _, H, rfl, I.os, I.bare, zab un dom2 x1.1 sl hfr, HOk.flown I.hok (fun b o q => PySem.W.of_hideAll _ q) x1.1 dom, x1, ?_, dom, dom2, hE⟩
  cases q : H e with
  | none => rfl
  | some o =>
    obtain ⟨ob, hob⟩ := gd (I.hok e o q);rw [hx.new] at hob; cases hob
theorem passX {P : Program} {w : World} {K : Fg} {mg : Str -> Option Value} {base : Heap} {N : List Str} {qual : Str} {scope : Scope} {f : Addr} {cd : Value} {A : Around} {outer : List Env} {s0 : Shared} {H0 : Hp} {E E1 : XK}
    (hX : X = cxOf (CX1 P w) P w K mg base N qual scope f cd A outer s0 H0 E) (hE : ∀ c H', E1 c none H' -> E c none H') : jr (CX1 P w) X E1 := by
  subst hX;intro pins σ H s e s' I h;obtain ⟨ea, C, a0, B, H', rfl, os, bare, un, hok, fl, hea, dom, dom2, hE1⟩ := h
  show wpAny _ _ (leaving _ (.ref ea)) _ _ _
  have hst : s'.heap.FunFrames B (envOfC qual scope s0.heap.objs.size f cd :: outer) := fl.2.2.1;have un0 : Un (frs outer) [] H0 H s0.heap s.heap := I.base
  have sub : ∀ b ∈ frs outer, b ∈ frs (envOfC qual scope s0.heap.objs.size f cd :: outer) := fun b hb => by
    obtain ⟨env, he, hf⟩ := ZX.mp hb;exact ZX.mpr ⟨env, Zv _ he, hf⟩
  have notL : ∀ b o, s0.heap.get? b = some o -> b ∉ frs outer -> b ∉ frs (envOfC qual scope s0.heap.objs.size f cd :: outer) := fun b o q n z => by
    rcases ZK.mp (I.stkSub b z) with y | y
    . have h1 : s0.heap.objs.size <= b := by rw [y]; exact I.ok.above
      exact absurd (Zh (Heap.lt_size q) h1) (ZJ _)
    . exact n y
  refine wpAny_leaves_onW I.ok.frames rfl fl fun h'' x1 x2 => ?_
  have ut := (un0.mono sub (fun _ z => z)).trans un;have un1 : Un (frs outer) [] H0 H' s0.heap s'.heap := ⟨fun b o e n hb hx => ut.keep b o e n (notL b o e hb) hx, fun b o e n hb hx => ut.slot b o e n (sub b hb) hx, ut.free, ut.there, ut.tups, ut.frzs, ut.tbls⟩
  have dom2' : ∀ b o, s0.heap.get? b = some o -> b ∉ frs outer -> ∃ ob, B.get? b = some ob /\ (H0 b = none -> ob = o) := fun b o q n => by
    obtain ⟨o1, e1⟩ := un0.there b o q (by simp);obtain ⟨ob, k1, k2⟩ := dom2 b o1 e1 (notL b o q n);refine ⟨ob, k1, fun z => ?_⟩;have e2 := un0.keep b o q z n (by simp);rw [e1] at e2;cases e2;exact k2 (un0.free b _ q z (by simp))
  have hfr : ∀ b ∈ frs outer, ∀ o, s'.heap.get? b = some o -> ∀ vs, o.data ≠ .fields vs := fun b hb o q => by
    obtain ⟨_, o', e', n'⟩ := hst.mem (b := b) (sub b hb);rw [q] at e'; cases e';exact n'
  exact ⟨ea, C, a0, B, H', rfl, os.trans I.os, bare, zab un1 dom2' x1.1 x2 hfr, HOk.flown hok fl.1 x1.1 dom, x1, hea, dom, dom2', hE _ _ hE1⟩
def ExcO (ea C : Addr) : HO := .ext fun h => ∃ o, h.get? ea = some o /\ o.cls = .ref C /\ ∃ vs, o.data = .fields vs
abbrev Cx.suite (X : Cx) (e : Value) : Cx := { X with A := X.A.mark (some e), calm := false, xe := fun _ _ => False }
end
abbrev VE : List Value := [.type "ValueError", .type "Exception", .type "BaseException", .type "object"]
structure Err (K : Fg) (C : Addr) : Prop where
  ok : PySem.W.excIn K C VE "ValueError.__new__" = true
theorem Err.obj {K : Fg} {C : Addr} {h : Heap} (c : Err K C) (X : K.In h) : ∃ bm N nm q bs hdct sn sub ab col dd k0 k1 k2 k3 k5 mN, h.get? C = some (excClassObj nm q C N bs bm hdct sn sub ab col dd k0 k1 k2 k3 k5 "ValueError.__new__") /\
    h.Ns N mN /\ mN "__init__" = none /\ OwnTail h VE bm /\ ∀ v b, PySem.W.mroIn K C v = some b -> (Value.ref C :: bm).contains v = b := by
  have q := c.ok;unfold PySem.W.excIn at q
  split at q
  case h_2 => cases q
  case h_1 dd cd sl ho =>
    split at q
    case h_2 => cases q
    case h_1 C' bm k0 k1 k2 k3 n k5 hm hs =>
      simp only [Bool.and_eq_true, beq_iff_eq, Bool.not_eq_true'] at q
      have hmro : ∀ v b, PySem.W.mroIn K C v = some b -> (Value.ref C' :: bm).contains v = b := fun v b e => by
        unfold PySem.W.mroIn PySem.W.clsIn at e;rw [ho] at e;simp only [Option.bind_some, hm, List.isEmpty_cons, Bool.false_eq_true, if_false, Option.some.injEq] at e;exact e
      obtain ⟨⟨⟨⟨⟨e1, e2⟩, hdel⟩, ht⟩, hok⟩, hni⟩ := q;subst e1;subst e2;obtain ⟨nm, bs, mro, ns, qn, hd, sn, sub, ab, col, del⟩ := cd;have hm' : mro = Value.ref C' :: bm := hm;have hdel' : del = false := hdel;subst hm';subst hdel'
      have hsl : sl = #[k0, k1, k2, k3, some (.builtin "ValueError.__new__"), k5] := by
        cases sl with
        | mk l =>
          have hs' : l = [k0, k1, k2, k3, some (.builtin "ValueError.__new__"), k5] := hs;rw [hs']
      subst hsl;exact ⟨bm, ns, nm, qn, bs, hd, sn, sub, ab, col, dd, k0, k1, k2, k3, k5, _, X _ _ ho, .of_isNs (PySem.W.isNs_of_in X hok), PySem.W.nsMap_none_of_in X hok hni, PySem.W.tail_of_in X ht, hmro⟩
section
variable {M : Model} {A : Around} {E : Value -> Shared -> Prop}
end
end L2
namespace L2
open PySem PySem.Spec PyProof.Rows
theorem PS.nox {X : Cx} {st : Stmt} {t : TS} (h : PS X.nox st t) : PS X st t := fun pins s σ H D I hw =>
  wpAny_mono (h pins s σ H D (I.wish _) hw) (fun _ _ z => z.unwish) fun _ _ z => z.elim
def tryXe (X : Cx) (pn : List (Addr × Obj)) (J : St -> Value -> Hp -> Prop) : Value -> Shared -> Prop := fun e s' =>
  ∃ pins σ H s, Inv { X with pn := pn, xe := fun _ _ => False } pins σ H s /\ CX1 X.prog X.w X.stack H s (fun c _ H' => J σ c H') e s'
abbrev tryCx (X : Cx) (pn : List (Addr × Obj)) (J : St -> Value -> Hp -> Prop) : Cx := { X with pn := pn, xe := tryXe X pn J }
def Takes (X : Cx) (J : St -> Value -> Hp -> Prop) : Prop := ∀ pins σ H s e s', Inv X pins σ H s -> CX1 X.prog X.w X.stack H s (fun c _ H' => J σ c H') e s' -> X.xe e s'
theorem d0 {X : Cx} {P : Program} {w : World} {K : Fg} {mg : Str -> Option Value} {base : Heap} {N : List Str} {qual : Str} {scope : Scope} {f : Addr} {cd : Value} {A : Around} {outer : List Env} {s0 : Shared} {H0 : Hp} {E : XK}
    (hX : X = cxOf (CX1 P w) P w K mg base N qual scope f cd A outer s0 H0 E) : Takes X (fun _ c H' => E c none H') := fun pins σ H s e s' I h => by
  have q := passX (X := X) (E1 := fun c _ H' => E c none H') hX (fun _ _ z => z) pins σ H s e s' I;subst hX;exact q h
structure FnAtX (P : Program) (w : World) (K : Fg) (mg : Str -> Option Value) (base : Heap) (name : Str) (k : Nat) (ps : List Str) (sp : Sp) : Prop where
  ex : ∃ f fd, mg name = some (.ref f) /\ PySem.W.keepIn K (.ref f) = true /\ Binds K fd ps [] /\ FnOk P w K mg base (CX1 P w) k f fd ps sp
theorem FnAtX.of {P : Program} {w : World} {K : Fg} {mg : Str -> Option Value} {base : Heap} {name : Str} {st : Stmt} {N ps : List Str} {k : Nat} {sp : Sp} (D : zc K mg name st ps) (S : zn N ps (zi st)) (len : ∀ vs H Q E, sp vs H Q E -> vs.length = ps.length)
    (hbody : ∀ (f : Addr) (cdv : Value) (A : Around) (outer : List Env) (s : Shared) (H : Hp) (vs : List V) (Q : VK) (E : XK), Room k (A.deeper (envOfC name (zi st) s.heap.objs.size f cdv)) -> sp vs H Q E ->
      ∃ t, PSs (cxOf (CX1 P w) P w K mg base N name (zi st) f cdv A outer s H E) (xm st) t /\ t { nx := fun _ H' => Q .non H', rt := Q } (start N vs) H) : FnAtX P w K mg base name (k + 1) ps sp := by
  obtain ⟨f, fd, hm, F, hb⟩ := D.ex;refine ⟨f, fd, hm, F.kp, hb, ?_⟩;obtain ⟨oc, od, kV, doc, pm, an, cdv, ct, osl, rfl, lk, hcd⟩ := F.ex;exact fn_of lk hcd S len (hbody f cdv)
section
variable {X : Cx} {x : Str} {k : Nat} {ps : List Str} {sp : Sp} {p pos : Pos} {e : Expr} {es : List Expr} {t : TA}
def zgq (sp : Sp) (J : St -> Value -> Hp -> Prop) (t : TA) : TE := fun σ H Q => t σ H fun vs H1 => sp vs H1 Q fun c _ H' => J σ c H'
theorem ziw {J : St -> Value -> Hp -> Prop} {σ : St} {H : Hp} {Q : VK} : zgq sp J t σ H Q = t σ H fun vs H1 => sp vs H1 Q fun c _ H' => J σ c H' := rfl
theorem zau {J : St -> Value -> Hp -> Prop} (F : FnAtX X.prog X.w X.K X.mg X.base x k ps sp) (hr : Room k X.A) (hx : Takes X J) (hg : Gl X x) (ha : PA X (e :: es) t) (hdb : (x == ("__debug__" : Str)) = false := by decide) (he : starEach (e :: es) X.env = (false, eval e X.env) :: starEach es X.env := by rfl)
    (hpl : (backTo pos (starEach es X.env)).any (·.1) = false := by rfl) : PE X (.Call (.Name x p) (e :: es) [] pos) (zgq sp J t) := by
  obtain ⟨f, fd, hm, hk, hb, G⟩ := F.ex;intro pins s σ H Q I h;refine wpAny_Call_Name_kw (ir I hg hm ?_ hdb);refine PySem.W.callWith_K (h₀ := X.base) I.ok.mod.kin hk (thn (ha pos pins s σ H _ I h) fun us s1 ⟨vs, H1, I1, r, q⟩ => ⟨I1.kIn, ?_⟩) he hpl;have hl : (us ++ []).length = ps.length := by rw [Ye, <- r.length]; exact G.len _ _ _ _ q
  refine wpAny_call (codeAny_mono (G.run X.A X.stack s1 H1 ⟨us, []⟩ us vs Q _ hr I1.env0 (by have := hb s1 us I1.kIn hl; rw [Ye] at this; exact this) r q) fun r' s' hq => ?_)
  cases r' with
  | error e => exact hx pins σ H1 s1 e s' I1 hq
  | ok fl =>
    cases fl with
    | ret u => exact I1.after hq
    | next => exact False.elim hq
    | brk => exact False.elim hq
    | cont => exact False.elim hq
theorem fg (F : FnAtX X.prog X.w X.K X.mg X.base x k ps sp) (hr : Room k X.A) (hg : Gl X x) (ha : PA X (e :: es) t) (hdb : (x == ("__debug__" : Str)) = false := by decide) (he : starEach (e :: es) X.env = (false, eval e X.env) :: starEach es X.env := by rfl)
    (hpl : (backTo pos (starEach es X.env)).any (·.1) = false := by rfl) : PE X (.Call (.Name x p) (e :: es) [] pos) (am sp [] E0 t) := by
  obtain ⟨f, fd, hm, hk, hb, G⟩ := F.ex;exact zda G hr hg hm hk hb .nil pass1 ha hdb he hpl
end
section
variable {X : Cx} {C : Addr} {x : Str} {np cpos pos : Pos}
def zgh (X : Cx) (C : Addr) (R : Hp -> Prop) : Prop := ∀ pins σ H s h' e args tk, Inv X pins σ H s -> Heap.MadeExcOf s.heap h' e (.ref C) args -> R H -> X.xe (.ref e) { s with heap := h', toks := tk }
theorem rp {P : Program} {w : World} {K : Fg} {mg : Str -> Option Value} {base : Heap} {N : List Str} {qual : Str} {scope : Scope} {f : Addr} {cd : Value} {A : Around} {outer : List Env} {s0 : Shared} {H0 : Hp} {E : XK}
    (hX : X = cxOf (CX1 P w) P w K mg base N qual scope f cd A outer s0 H0 E) : zgh X C (fun H => E (.ref C) none H) := fun pins σ H s h' e args tk I hx hE => zbs hX I hx hE tk
def zfb (R : Hp -> Prop) (ta : TA) : TS := fun _ σ H => ta σ H fun vs H1 => vs.length <= sizeLine /\ R H1
theorem zh8 {R : Hp -> Prop} {ta : TA} {D : Ends} {σ : St} {H : Hp} : zfb R ta D σ H = ta σ H fun vs H1 => vs.length <= sizeLine /\ R H1 := rfl
theorem jc {e : Expr} {es : List Expr} {R : Hp -> Prop} {ta : TA} (hc : X.calm = true) (c : Err X.K C) (hg : Gl X x) (hm : X.mg x = some (.ref C)) (hr : zgh X C R) (ha : PA X (e :: es) ta) (hdb : (x == ("__debug__" : Str)) = false := by decide)
    (he : starEach (e :: es) X.env = (false, eval e X.env) :: starEach es X.env := by rfl) (hpl : (backTo cpos (starEach es X.env)).any (·.1) = false := by rfl) :
    PS X (.Raise (some (.Call (.Name x np) (e :: es) [] cpos)) none pos) (zfb R ta) := by
  intro pins s σ H D I h;obtain ⟨bm, N, nm, q, bs, hdct, sn, sub, ab, col, dd, k0, k1, k2, k3, k5, mN, hC, hN, hni, T, _⟩ := c.obj I.ok.mod.kin
  refine wpAny_Raise_call_subU (C := C) (nm := nm) (q := q) (N := N) (bs := bs) (bm := bm) (hdct := hdct) (sn := sn) (sub := sub) (ab := ab) (col := col) (dd := dd) (k0 := k0) (k1 := k1) (k2 := k2) (k3 := k3) (k5 := k5)
    PySem.F.excBase_ValueError (by decide +kernel) PySem.F.excBase_ValueError (mN := mN) (T.hasType PySem.F.excBase_ValueError.hasBase) (I.ok.hd hc) (by rw [he]; show (false || (backTo cpos (starEach es X.env)).any (·.1)) = false; rw [hpl]; rfl) hni (ir I hg hm ⟨rfl, ?_⟩ hdb)
  have hrun := ha cpos pins s σ H _ I h;rw [he] at hrun ⊢;refine Calls.evalArgs_plain (wpAny_mono hrun (fun us s1 h1 => ?_) fun _ _ z => z);obtain ⟨vs, H1, I1, r1, hz, q1⟩ := h1;exact ⟨rfl, by rw [<- r1.length]; exact hz, I1.bk _ _ hC, hN.keeps I1.bk, T.keeps I1.bk, fun h' e hx => hr pins σ H1 s1 h' e us s1.toks I1 hx q1⟩
end
section
variable {X : Cx} {pins : List (Addr × Obj)} {σ : St} {H : Hp} {s : Shared}
def ze1 (i : Nat) (D : Ends) : Ends := { nx := fun σ H => D.nx (σ.set i none) H, rt := D.rt, bk := fun σ H => D.bk (σ.set i none) H, ct := fun σ H => D.ct (σ.set i none) H }
def tTryAs (K : Fg) (D0 : Addr) (i : Nat) (tb : (St -> Value -> Hp -> Prop) -> List (Addr × Obj) -> TS) (ts : Value -> TS) : TS := fun D σ H => ∃ J : St -> Value -> Hp -> Prop, (∀ pn, tb J pn D σ H) /\
  ∀ σ1 c H1, J σ1 c H1 -> ∃ C, c = .ref C /\ Err K C /\ PySem.W.mroIn K C (.ref D0) = some true /\ ∀ e ea, H1 ea = none -> ts e (ze1 i D) (σ1.set i (some (.ref ea))) (upd H1 ea (ExcO ea C))
def tTry0 (K : Fg) (D0 : Addr) (tb : (St -> Value -> Hp -> Prop) -> List (Addr × Obj) -> TS) (ts : Value -> TS) : TS := fun D σ H => ∃ J : St -> Value -> Hp -> Prop, (∀ pn, tb J pn D σ H) /\
  ∀ σ1 c H1, J σ1 c H1 -> ∃ C, c = .ref C /\ Err K C /\ PySem.W.mroIn K C (.ref D0) = some true /\ ∀ e, ts e D σ1 H1
theorem suK {e : Value} : (X.suite e).K = X.K := rfl
theorem noxK : X.nox.K = X.K := rfl
theorem tryK {pn : List (Addr × Obj)} {J : St -> Value -> Hp -> Prop} : (tryCx X pn J).K = X.K := rfl
theorem zhx {K : Fg} {D0 : Addr} {i : Nat} {tb : (St -> Value -> Hp -> Prop) -> List (Addr × Obj) -> TS} {ts : Value -> TS} {D : Ends} : tTryAs K D0 i tb ts D σ H = ∃ J : St -> Value -> Hp -> Prop, (∀ pn, tb J pn D σ H) /\
  ∀ σ1 c H1, J σ1 c H1 -> ∃ C, c = .ref C /\ Err K C /\ PySem.W.mroIn K C (.ref D0) = some true /\ ∀ e ea, H1 ea = none -> ts e (ze1 i D) (σ1.set i (some (.ref ea))) (upd H1 ea (ExcO ea C)) := rfl
theorem e_try0 {K : Fg} {D0 : Addr} {tb : (St -> Value -> Hp -> Prop) -> List (Addr × Obj) -> TS} {ts : Value -> TS} {D : Ends} : tTry0 K D0 tb ts D σ H = ∃ J : St -> Value -> Hp -> Prop, (∀ pn, tb J pn D σ H) /\
  ∀ σ1 c H1, J σ1 c H1 -> ∃ C, c = .ref C /\ Err K C /\ PySem.W.mroIn K C (.ref D0) = some true /\ ∀ e, ts e D σ1 H1 := rfl
end
end L2
namespace L2
open PySem PySem.Spec PyProof.Rows
structure ErrQ (K : Fg) (C : Addr) : Prop extends Err K C where
  ga : PySem.W.findIn K (.ref C) "__getattribute__" = some (some (.builtin "BaseException.__getattribute__"))
  gn : PySem.W.findIn K (.ref C) "__getattr__" = some none
  gc : PySem.W.findIn K (.ref C) "__class__" = some (some (.builtin "object.__class__"))
section
variable {prog : Program} {w : World} {A : Around} {E : Value -> Shared -> Prop} {h : Heap} {g : Array GenState} {d : Drawn} {t : Nat} {os : OsState} {a C : Addr} {o : Obj} {K : Fg}
end
section
variable {X : Cx} {pins : List (Addr × Obj)} {σ : St} {H : Hp} {s : Shared}
end
theorem zbq {K : Fg} {h : Heap} {mg : Str -> Option Value} (X : K.In h) (G : h.Ns mainGlobals mg) {name : Str} {C : Addr} (e : PySem.W.nsIn K mainGlobals name = some (some (.ref C))) (q : PySem.W.excIn K C VE "ValueError.__new__" = true)
    (g1 : PySem.W.findIn K (.ref C) "__getattribute__" = some (some (.builtin "BaseException.__getattribute__"))) (g2 : PySem.W.findIn K (.ref C) "__getattr__" = some none) (g3 : PySem.W.findIn K (.ref C) "__class__" = some (some (.builtin "object.__class__"))) :
    mg name = some (.ref C) /\ ErrQ K C := ⟨PySem.W.mg_of X G e, ⟨⟨q⟩, g1, g2, g3⟩⟩
theorem Same.seqT {K : Fg} {H H' : Hp} {a : Addr} {xs : List V} (e : Same H H') (h : SqT K H a xs) : SqT K H' a xs := by
  rcases h with (h | ⟨o, h⟩) | h
  . exact .inl (.inl (e _ _ h))
  . exact .inl (.inr ⟨o, e _ _ h⟩)
  . exact .inr h
end L2
namespace L2
open PySem PySem.Spec PyProof.Rows
inductive Tr where
  | lf (v : V) | ls (ts : List Tr) | tp (ts : List Tr)
mutual
def TrAt (K : Fg) (H : Hp) : Tr -> V -> Prop
  | .lf v, x => x = v /\ xi v = true
  | .ls ts, x => ∃ a xs, x = .ref a /\ SqL K H a xs /\ TrsAt K H ts xs
  | .tp ts, x => ∃ a xs, x = .ref a /\ SqT K H a xs /\ TrsAt K H ts xs
def TrsAt (K : Fg) (H : Hp) : List Tr -> List V -> Prop
  | [], xs => xs = []
  | t :: ts, xs => ∃ y ys, xs = y :: ys /\ TrAt K H t y /\ TrsAt K H ts ys
end
mutual
def eqTr : Tr -> Tr -> Bool
  | .lf v, .lf w => eqV v w
  | .ls ts, .ls us => we ts us
  | .tp ts, .tp us => we ts us
  | _, _ => false
def we : List Tr -> List Tr -> Bool
  | [], [] => true
  | t :: ts, u :: us => eqTr t u && we ts us
  | _, _ => false
end
mutual
def deep : Tr -> Nat
  | .lf _ => 0
  | .ls ts => va ts + 1
  | .tp ts => va ts + 1
def va : List Tr -> Nat
  | [] => 0
  | t :: ts => max (deep t) (va ts)
end
theorem w6 : ∀ {ts : List Tr} {t : Tr}, t ∈ ts -> deep t <= va ts
  | t :: ts, u, h => by
    rw [va]
    rcases ZK.mp h with z | z
    . rw [z]; omega
    . have := w6 z; omega
theorem qg : ∀ {xs ys : List Tr}, xs.length = ys.length -> ((List.range xs.length).all fun j => eqTr (xs.getD j (.lf .non)) (ys.getD j (.lf .non))) = we xs ys
  | [], [], _ => by rw [we]; rfl
  | x :: xs, y :: ys, h => by
    rw [we, <- qg (xs := xs) (ys := ys) (by simpa using h), ZL, List.range_succ_eq_map, List.all_cons, List.all_map];rfl
theorem me : ∀ {xs ys : List Tr}, xs.length ≠ ys.length -> we xs ys = false
  | [], [], h => absurd rfl h
  | [], _ :: _, _ => by rw [we] <;> simp
  | _ :: _, [], _ => by rw [we] <;> simp
  | x :: xs, y :: ys, h => by
    rw [we, me (xs := xs) (ys := ys) (by simpa using h), Bool.and_false]
theorem zcv {xs ys : List Tr} : (((List.range (min xs.length ys.length)).all fun j => eqTr (xs.getD j (.lf .non)) (ys.getD j (.lf .non))) && xs.length == ys.length) = we xs ys := by
  by_cases hl : xs.length = ys.length
  . rw [<- hl, YG, qg hl]
    simp
  . rw [me hl, show (xs.length == ys.length) = false by simpa using hl, Bool.and_false]
theorem TrsAt.len {K : Fg} {H : Hp} : ∀ {ts : List Tr} {xs : List V}, TrsAt K H ts xs -> ts.length = xs.length
  | [], xs, h => by rw [TrsAt] at h; rw [h]; rfl
  | t :: ts, xs, h => by
    rw [TrsAt] at h;obtain ⟨y, ys, rfl, _, h⟩ := h;simp [TrsAt.len h]
theorem TrsAt.get {K : Fg} {H : Hp} : ∀ {ts : List Tr} {xs : List V} {j : Nat} {x : V}, TrsAt K H ts xs -> xs[j]? = some x -> ∃ t, ts[j]? = some t /\ TrAt K H t x
  | [], xs, j, x, h, e => by rw [TrsAt] at h; subst h; simp at e
  | t :: ts, xs, 0, x, h, e => by
    rw [TrsAt] at h;obtain ⟨y, ys, rfl, h1, h⟩ := h;cases e;exact ⟨t, rfl, h1⟩
  | t :: ts, xs, j + 1, x, h, e => by
    rw [TrsAt] at h;obtain ⟨y, ys, rfl, h1, h⟩ := h;exact TrsAt.get (ts := ts) (j := j) h e
theorem TrsAt.of {K : Fg} {H : Hp} : ∀ {ts : List Tr} {xs : List V}, ts.length = xs.length -> (∀ (j : Nat) (t : Tr) (x : V), ts[j]? = some t -> xs[j]? = some x -> TrAt K H t x) -> TrsAt K H ts xs
  | [], [], _, _ => by rw [TrsAt]
  | t :: ts, x :: xs, hl, h => by
    rw [TrsAt];exact ⟨x, xs, rfl, h 0 t x rfl rfl, TrsAt.of (by simpa using hl) fun j t x e1 e2 => h (j + 1) t x e1 e2⟩
theorem gr {v : V} (h : xi v = true) : eqV v v = true := by
  cases v with
  | non => rfl
  | bl b => exact beq_self_eq_true b
  | int i => exact beq_self_eq_true i
  | str x => exact beq_self_eq_true x
  | _ => exact absurd (show false = true from h) Bool.false_ne_true
section
variable {X : Cx} {pins : List (Addr × Obj)} {σ : St} {H : Hp} {s : Shared}
theorem zcp (I : Inv X pins σ H s) : ∀ (n : Nat) (t t' : Tr) (x : V), deep t <= n -> TrAt X.K H t x -> TrAt X.K H t' x -> eqTr t t' = true := by
  intro n
  induction n with
  | zero =>
    intro t t' x hd h h'
    cases t with
    | ls ts => rw [deep] at hd; omega
    | tp ts => rw [deep] at hd; omega
    | lf v =>
      rw [TrAt] at h;obtain ⟨rfl, f⟩ := h
      cases t' with
      | lf w => rw [TrAt] at h'; obtain ⟨rfl, _⟩ := h'; rw [eqTr]; exact gr f
      | ls ts => rw [TrAt] at h'; obtain ⟨a, xs, rfl, _⟩ := h'; cases f
      | tp ts => rw [TrAt] at h'; obtain ⟨a, xs, rfl, _⟩ := h'; cases f
  | succ n ih =>
    have all : ∀ (ts us : List Tr) (xs : List V), va ts <= n -> TrsAt X.K H ts xs -> TrsAt X.K H us xs -> we ts us = true := by
      intro ts
      induction ts with
      | nil =>
        intro us xs _ h1 h2
        cases us with
        | nil => rw [we]
        | cons u us => rw [TrsAt] at h1; rw [TrsAt] at h2; obtain ⟨y, ys, e, _⟩ := h2; rw [h1] at e; cases e
      | cons t ts ih2 =>
        intro us xs hd h1 h2;rw [TrsAt] at h1;obtain ⟨y, ys, rfl, a1, b1⟩ := h1
        cases us with
        | nil => rw [TrsAt] at h2; cases h2
        | cons u us =>
          rw [TrsAt] at h2;obtain ⟨y', ys', e, a2, b2⟩ := h2;cases e;rw [va] at hd;rw [we, ih t u y (by omega) a1 a2, ih2 us ys (by omega) b1 b2];rfl
    intro t t' x hd h h'
    cases t with
    | lf v =>
      rw [TrAt] at h;obtain ⟨rfl, f⟩ := h
      cases t' with
      | lf w => rw [TrAt] at h'; obtain ⟨rfl, _⟩ := h'; rw [eqTr]; exact gr f
      | ls ts => rw [TrAt] at h'; obtain ⟨a, xs, rfl, _⟩ := h'; cases f
      | tp ts => rw [TrAt] at h'; obtain ⟨a, xs, rfl, _⟩ := h'; cases f
    | ls ts =>
      rw [TrAt] at h;obtain ⟨a, xs, rfl, sq, h⟩ := h;rw [deep] at hd
      cases t' with
      | lf w => rw [TrAt] at h'; obtain ⟨rfl, f⟩ := h'; cases f
      | ls us =>
        rw [TrAt] at h';obtain ⟨b, ys, e, sq', h'⟩ := h';cases e;obtain rfl := I.list_inj sq sq';rw [eqTr];exact all ts us xs (by omega) h h'
      | tp us =>
        rw [TrAt] at h';obtain ⟨b, ys, e, sq', h'⟩ := h';cases e;obtain ⟨_, _, p1, _⟩ := I.list sq;obtain ⟨_, _, p2, _⟩ := I.tuple sq';exact (SeqAt.ne_of_list_tuple p1.isList p2 rfl).elim
    | tp ts =>
      rw [TrAt] at h;obtain ⟨a, xs, rfl, sq, h⟩ := h;rw [deep] at hd
      cases t' with
      | lf w => rw [TrAt] at h'; obtain ⟨rfl, f⟩ := h'; cases f
      | tp us =>
        rw [TrAt] at h';obtain ⟨b, ys, e, sq', h'⟩ := h';cases e;obtain rfl := I.tuple_inj sq sq';rw [eqTr];exact all ts us xs (by omega) h h'
      | ls us =>
        rw [TrAt] at h';obtain ⟨b, ys, e, sq', h'⟩ := h';cases e;obtain ⟨_, _, p1, _⟩ := I.list sq';obtain ⟨_, _, p2, _⟩ := I.tuple sq;exact (SeqAt.ne_of_list_tuple p1.isList p2 rfl).elim
theorem cp {A : Around} {a : Addr} {us : Array Value} {v : V} {u : Value} (r : RelV v u) (f : xi v = true) (hl : s.heap.IsList a us) (hu : A.units < cLine) : SeqAt.EqAt A s u (.ref a) false := by
  cases v with
  | non => cases r; exact SeqAt.EqAt.none_list hl hu
  | bl b => cases r; exact SeqAt.EqAt.bool_list b hl hu
  | int b => obtain ⟨t, rfl⟩ := r; exact SeqAt.EqAt.int_list b t hl hu
  | str b => obtain ⟨t, rfl⟩ := r; exact SeqAt.EqAt.str_list b t hl hu
  | _ => cases f
theorem ci {A : Around} {a : Addr} {us : Array Value} {v : V} {u : Value} (r : RelV v u) (f : xi v = true) (hl : s.heap.IsList a us) (hu : A.units < cLine) : SeqAt.EqAt A s (.ref a) u false := by
  cases v with
  | non => cases r; exact SeqAt.EqAt.list_none hl hu
  | bl b => cases r; exact SeqAt.EqAt.list_bool b hl hu
  | int b => obtain ⟨t, rfl⟩ := r; exact SeqAt.EqAt.list_int b t hl hu
  | str b => obtain ⟨t, rfl⟩ := r; exact SeqAt.EqAt.list_str b t hl hu
  | _ => cases f
theorem dy {A : Around} {a : Addr} {us : Array Value} {v : V} {u : Value} (r : RelV v u) (f : xi v = true) (hl : s.heap.IsTuple a us) (hu : A.units < cLine) : SeqAt.EqAt A s u (.ref a) false := by
  cases v with
  | non => cases r; exact SeqAt.EqAt.none_tuple hl hu
  | bl b => cases r; exact SeqAt.EqAt.bool_tuple b hl hu
  | int b => obtain ⟨t, rfl⟩ := r; exact SeqAt.EqAt.int_tuple b t hl hu
  | str b => obtain ⟨t, rfl⟩ := r; exact SeqAt.EqAt.str_tuple b t hl hu
  | _ => cases f
theorem fu {A : Around} {a : Addr} {us : Array Value} {v : V} {u : Value} (r : RelV v u) (f : xi v = true) (hl : s.heap.IsTuple a us) (hu : A.units < cLine) : SeqAt.EqAt A s (.ref a) u false := by
  cases v with
  | non => cases r; exact SeqAt.EqAt.tuple_none hl hu
  | bl b => cases r; exact SeqAt.EqAt.tuple_bool b hl hu
  | int b => obtain ⟨t, rfl⟩ := r; exact SeqAt.EqAt.tuple_int b t hl hu
  | str b => obtain ⟨t, rfl⟩ := r; exact SeqAt.EqAt.tuple_str b t hl hu
  | _ => cases f
theorem kt {A : Around} {ts us : List Tr} {xs ys : List V} {vs ws : List Value} (h1 : TrsAt X.K H ts xs) (h2 : TrsAt X.K H us ys) (r1 : Vals xs vs) (r2 : Vals ys ws)
    (ih : ∀ t ∈ ts, ∀ u ∈ us, ∀ x y v w, TrAt X.K H t x -> TrAt X.K H u y -> RelV x v -> RelV y w -> SeqAt.EqAt A s v w (eqTr t u)) :
    ∀ j (h1 : j < vs.toArray.size) (h2 : j < ws.toArray.size), SeqAt.EqAt A s vs.toArray[j] ws.toArray[j] (eqTr (ts.getD j (.lf .non)) (us.getD j (.lf .non))) := by
  intro j k1 k2;obtain ⟨x, ex, rx⟩ := zaq r1 (j := j) (by simpa using k1);obtain ⟨y, ey, ry⟩ := zaq r2 (j := j) (by simpa using k2);obtain ⟨t, et, ht⟩ := h1.get ex;obtain ⟨u, eu, hu⟩ := h2.get ey;rw [List.getElem_toArray, List.getElem_toArray, Zk, Zk, et, eu];exact ih t (Zi et) u (Zi eu) x y _ _ ht hu rx ry
theorem zix (I : Inv X pins σ H s) : ∀ (n : Nat) (A : Around) (t t' : Tr) (x y : V) (u v : Value), deep t <= n -> deep t' <= n -> A.units + n <= cLine -> TrAt X.K H t x -> TrAt X.K H t' y -> RelV x u -> RelV y v -> SeqAt.EqAt A s u v (eqTr t t') := by
  intro n
  induction n with
  | zero =>
    intro A t t' x y u v d1 d2 hu h h' rx ry
    cases t with
    | ls ts => rw [deep] at d1; omega
    | tp ts => rw [deep] at d1; omega
    | lf v =>
      cases t' with
      | ls ts => rw [deep] at d2; omega
      | tp ts => rw [deep] at d2; omega
      | lf w =>
        rw [TrAt] at h h';obtain ⟨rfl, f⟩ := h;obtain ⟨rfl, f'⟩ := h';rw [eqTr];exact a9 rx ry f f'
  | succ n ih =>
    intro A t t' x y u v d1 d2 hu h h' rx ry;have hc : A.units < cLine := by omega
    have hi : A.in1.units + n <= cLine := by rw [jw]; omega
    cases t with
    | lf v =>
      rw [TrAt] at h;obtain ⟨rfl, f⟩ := h
      cases t' with
      | lf w =>
        rw [TrAt] at h';obtain ⟨rfl, f'⟩ := h';rw [eqTr];exact a9 rx ry f f'
      | ls us =>
        rw [TrAt] at h';obtain ⟨b, ys, rfl, sq, h'⟩ := h';obtain ⟨_, _, p1, _⟩ := I.list sq;cases ry;exact cp rx f p1.isList hc
      | tp us =>
        rw [TrAt] at h';obtain ⟨b, ys, rfl, sq, h'⟩ := h';obtain ⟨_, _, p1, _⟩ := I.tuple sq;cases ry;exact dy rx f p1 hc
    | ls ts =>
      rw [deep] at d1;have h0 := h;rw [TrAt] at h;obtain ⟨a, xs, rfl, sq, h⟩ := h;obtain ⟨vs, r1, p1, _⟩ := I.list sq;cases rx
      cases t' with
      | lf w =>
        rw [TrAt] at h';obtain ⟨rfl, f⟩ := h';exact ci ry f p1.isList hc
      | tp us =>
        rw [TrAt] at h';obtain ⟨b, ys, rfl, sq', h'⟩ := h';obtain ⟨_, _, p2, _⟩ := I.tuple sq';cases ry;exact SeqAt.EqAt.list_tuple p1.isList p2 hc
      | ls us =>
        have h0' := h';rw [TrAt] at h';obtain ⟨b, ys, rfl, sq', h'⟩ := h';obtain ⟨ws, r2, p2, _⟩ := I.list sq';cases ry;rw [deep] at d2
        by_cases e : a = b
        . subst e
          rw [zcp I (n + 1) (.ls ts) (.ls us) (.ref a) (by rw [deep]; omega) h0 h0'];exact SeqAt.EqAt.same _
        . have l1 := h.len
          have l2 := h'.len;have l3 := r1.length;have l4 := r2.length;rw [eqTr];refine .of_refs e ?_
          by_cases hl : ts.length = us.length
          . have q := SeqAt.RcAt.lists p1.isList p2.isList (by simp; omega) hc (kt (A := A.in1) (s := s) h h' r1 r2 fun t ht u hu x y v w k1 k2 k3 k4 => ih A.in1 t u x y v w (by have := w6 ht; omega) (by have := w6 hu; omega) hi k1 k2 k3 k4)
            rw [Zr, <- l3, <- l1, qg hl] at q;exact q
          . rw [me hl]
            exact SeqAt.RcAt.lists_lengths p1.isList p2.isList (by simp; omega) hc
    | tp ts =>
      rw [deep] at d1;have h0 := h;rw [TrAt] at h;obtain ⟨a, xs, rfl, sq, h⟩ := h;obtain ⟨vs, r1, p1, _⟩ := I.tuple sq;cases rx
      cases t' with
      | lf w =>
        rw [TrAt] at h';obtain ⟨rfl, f⟩ := h';exact fu ry f p1 hc
      | ls us =>
        rw [TrAt] at h';obtain ⟨b, ys, rfl, sq', h'⟩ := h';obtain ⟨_, _, p2, _⟩ := I.list sq';cases ry;exact SeqAt.EqAt.tuple_list p1 p2.isList hc
      | tp us =>
        have h0' := h';rw [TrAt] at h';obtain ⟨b, ys, rfl, sq', h'⟩ := h';obtain ⟨ws, r2, p2, _⟩ := I.tuple sq';cases ry;rw [deep] at d2
        by_cases e : a = b
        . subst e
          rw [zcp I (n + 1) (.tp ts) (.tp us) (.ref a) (by rw [deep]; omega) h0 h0'];exact SeqAt.EqAt.same _
        . have l1 := h.len
          have l2 := h'.len;have l3 := r1.length;have l4 := r2.length;rw [eqTr];refine .of_refs e ?_;have q := SeqAt.RcAt.tuples (show s.heap.IsTuple a vs.toArray from p1) (show s.heap.IsTuple b ws.toArray from p2) hc (kt (A := A.in1) (s := s) h h' r1 r2 fun t ht u hu x y v w k1 k2 k3 k4 => ih A.in1 t u x y v w (by have := w6 ht; omega) (by have := w6 hu; omega) hi k1 k2 k3 k4);rw [Zr, Zr, <- l3, <- l4, <- l1, <- l2, zcv] at q;exact q
end
section
variable {X : Cx}
def SameK : Tr -> Tr -> Prop
  | .ls _, .ls _ => True
  | .tp _, .tp _ => True
  | _, _ => False
theorem SameK.of {t t' : Tr} (h : SameK t t') : (∃ ts us, t = .ls ts /\ t' = .ls us) \/ ∃ ts us, t = .tp ts /\ t' = .tp us := by
  cases t <;> cases t' <;> first | exact .inl ⟨_, _, rfl, rfl⟩ | exact .inr ⟨_, _, rfl, rfl⟩ | exact h.elim
def rEqD (K : Fg) (n : Nat) (neg : Bool) (x y : V) (H : Hp) (Q : VK) : Prop := ∃ t t', SameK t t' /\ TrAt K H t x /\ TrAt K H t' y /\ deep t <= n /\ deep t' <= n /\ Q (.bl (neg ^^ eqTr t t')) H
theorem op_neD {n : Nat} (hu : X.A.units + n <= cLine) : OpR X (compareOp .NotEq) (rEqD X.K n true) := by
  intro pins s σ H x y v u Q I rx ry h;obtain ⟨t, t', hk, h1, h2, d1, d2, q⟩ := h;rw [Bool.true_xor] at q;have key := fun (A : Around) (m : Nat) (hA : A.units + m <= cLine) t t' x y u v e1 e2 => zix I m A t t' x y u v e1 e2 hA
  rcases hk.of with ⟨ts, us, rfl, rfl⟩ | ⟨ts, us, rfl, rfl⟩
  . rw [TrAt] at h1 h2
    obtain ⟨a, xs, rfl, sq, h⟩ := h1;obtain ⟨b, ys, rfl, sq', h'⟩ := h2;cases rx; cases ry;obtain ⟨vs, r1, p1, _⟩ := I.list sq;obtain ⟨ws, r2, p2, _⟩ := I.list sq';rw [deep] at d1 d2;have l1 := h.len;have l2 := h'.len;have l3 := r1.length;have l4 := r2.length;rw [eqTr] at q
    by_cases hl : ts.length = us.length
    . refine SeqAt.RcNeAt.lists p1.isList p2.isList (by simp; omega) (by omega) (kt (A := X.A.in1) (s := s) h h' r1 r2 fun t ht u hu x y v w k1 k2 k3 k4 => key X.A.in1 (n - 1) (by rw [jw]; omega) t u x y v w (by have := w6 ht; omega) (by have := w6 hu; omega) k1 k2 k3 k4) _ _ _ _ ?_
      rw [Zr, <- l3, <- l1, qg hl];exact ⟨.bl (!we ts us), H, I, rfl, q⟩
    . refine SeqAt.RcNeAt.lists_lengths p1.isList p2.isList (by simp; omega) (by omega) _ _ _ _ ?_
      rw [me hl] at q;exact ⟨.bl true, H, I, rfl, q⟩
  . rw [TrAt] at h1 h2
    obtain ⟨a, xs, rfl, sq, h⟩ := h1;obtain ⟨b, ys, rfl, sq', h'⟩ := h2;cases rx; cases ry;obtain ⟨vs, r1, p1, _⟩ := I.tuple sq;obtain ⟨ws, r2, p2, _⟩ := I.tuple sq';rw [deep] at d1 d2;have l1 := h.len;have l2 := h'.len;have l3 := r1.length;have l4 := r2.length;rw [eqTr] at q;refine SeqAt.RcNeAt.tuples (show s.heap.IsTuple a vs.toArray from p1) (show s.heap.IsTuple b ws.toArray from p2) (by omega) (kt (A := X.A.in1) (s := s) h h' r1 r2 fun t ht u hu x y v w k1 k2 k3 k4 => key X.A.in1 (n - 1) (by rw [jw]; omega) t u x y v w (by have := w6 ht; omega) (by have := w6 hu; omega) k1 k2 k3 k4) _ _ _ _ ?_;rw [Zr, Zr, <- l3, <- l4, <- l1, <- l2, zcv];exact ⟨.bl (!we ts us), H, I, rfl, q⟩
end
mutual
def ud : Tr -> Bool
  | .lf (.int _) => true
  | .lf (.str _) => true
  | .lf .non => true
  | .lf _ => false
  | .ls ts => ve ts
  | .tp ts => ve ts
def ve : List Tr -> Bool
  | [] => true
  | t :: ts => ud t && ve ts
end
mutual
theorem zay : ∀ {t u : Tr}, ud t = true -> ud u = true -> (eqTr t u = true ↔ t = u)
  | .lf v, .lf w, p, q => by
    rw [eqTr]
    constructor
    . intro h
      cases v <;> cases w <;> first | (cases h; done) | (cases p; done) | (cases q; done) | skip
      . rfl
      . rw [beq_iff_eq.mp h]
      . rw [beq_iff_eq.mp h]
    . intro h
      cases h;cases v <;> first | (cases p; done) | exact gr rfl
  | .ls ts, .ls us, p, q => by
    rw [eqTr];rw [ud] at p q;rw [jx p q]
    constructor
    . intro h; rw [h]
    . intro h; cases h; rfl
  | .tp ts, .tp us, p, q => by
    rw [eqTr];rw [ud] at p q;rw [jx p q]
    constructor
    . intro h; rw [h]
    . intro h; cases h; rfl
  | .lf v, .ls us, p, q => by rw [eqTr] <;> simp
  | .lf v, .tp us, p, q => by rw [eqTr] <;> simp
  | .ls ts, .lf w, p, q => by rw [eqTr] <;> simp
  | .ls ts, .tp us, p, q => by rw [eqTr] <;> simp
  | .tp ts, .lf w, p, q => by rw [eqTr] <;> simp
  | .tp ts, .ls us, p, q => by rw [eqTr] <;> simp
theorem jx : ∀ {ts us : List Tr}, ve ts = true -> ve us = true -> (we ts us = true ↔ ts = us)
  | [], [], _, _ => by rw [we]; simp
  | [], u :: us, _, _ => by rw [we] <;> simp
  | t :: ts, [], _, _ => by rw [we] <;> simp
  | t :: ts, u :: us, p, q => by
    rw [ve, Bool.and_eq_true] at p q;rw [we, Bool.and_eq_true, zay p.1 q.1, jx p.2 q.2]
    constructor
    . rintro ⟨rfl, rfl⟩; rfl
    . intro h; cases h; exact ⟨rfl, rfl⟩
end
theorem zgp : ∀ {t : Tr}, ud t = true -> eqTr t t = true := fun h => (zay h h).mpr rfl
section
variable {X : Cx} {pins : List (Addr × Obj)} {σ : St} {H : Hp} {s : Shared}
open Classical in
end
section
variable {X : Cx}
def inTr (t : Tr) (ts : List Tr) : Bool := ts.any fun u => eqTr u t
def rInD (K : Fg) (n : Nat) (neg : Bool) : R2 := fun x y H Q => ∃ p xs ts t, y = .ref p /\ (SqL K H p xs \/ SqT K H p xs) /\ TrsAt K H ts xs /\ TrAt K H t x /\ deep t <= n /\ va ts <= n /\ Q (.bl (neg ^^ inTr t ts)) H
end
theorem TrAt.lf {K : Fg} {H : Hp} {v : V} (f : xi v = true) : TrAt K H (.lf v) v := by rw [TrAt]; exact ⟨rfl, f⟩
theorem TrAt.ls {K : Fg} {H : Hp} {a : Addr} {xs : List V} {ts : List Tr} (h : SqL K H a xs) (q : TrsAt K H ts xs) : TrAt K H (.ls ts) (.ref a) := by rw [TrAt]; exact ⟨a, xs, rfl, h, q⟩
theorem TrAt.tp {K : Fg} {H : Hp} {a : Addr} {xs : List V} {ts : List Tr} (h : SqT K H a xs) (q : TrsAt K H ts xs) : TrAt K H (.tp ts) (.ref a) := by rw [TrAt]; exact ⟨a, xs, rfl, h, q⟩
theorem TrsAt.nil {K : Fg} {H : Hp} : TrsAt K H [] [] := by rw [TrsAt]
theorem TrsAt.cons {K : Fg} {H : Hp} {t : Tr} {ts : List Tr} {x : V} {xs : List V} (h : TrAt K H t x) (q : TrsAt K H ts xs) : TrsAt K H (t :: ts) (x :: xs) := by rw [TrsAt]; exact ⟨x, xs, rfl, h, q⟩
theorem aw {n : Nat} : ∀ {ts : List Tr}, (∀ t ∈ ts, deep t <= n) -> va ts <= n
  | [], _ => by rw [va]; omega
  | t :: ts, h => by
    rw [va];have := h t ZA;have := aw (ts := ts) fun u hu => h u (Zv _ hu)
    omega
theorem kg : ∀ {ts : List Tr}, (∀ t ∈ ts, ud t = true) -> ve ts = true
  | [], _ => by rw [ve]
  | t :: ts, h => by
    rw [ve, h t ZA, kg (ts := ts) fun u hu => h u (Zv _ hu)];rfl
theorem e_eqD {K : Fg} {n : Nat} {neg : Bool} {x y : V} {H : Hp} {Q : VK} : rEqD K n neg x y H Q = ∃ t t', SameK t t' /\ TrAt K H t x /\ TrAt K H t' y /\ deep t <= n /\ deep t' <= n /\ Q (.bl (neg ^^ eqTr t t')) H := rfl
theorem e_inD {K : Fg} {n : Nat} {neg : Bool} {x y : V} {H : Hp} {Q : VK} : rInD K n neg x y H Q = ∃ p xs ts t, y = .ref p /\ (SqL K H p xs \/ SqT K H p xs) /\ TrsAt K H ts xs /\ TrAt K H t x /\ deep t <= n /\ va ts <= n /\ Q (.bl (neg ^^ inTr t ts)) H := rfl
end L2
namespace L2
open PySem PySem.Spec PyProof.Rows
def chr1 (c : Nat) : Str := ⟨#[c]⟩
def Itw (x : Str) : It := ⟨fun i _ => i < x.cps.size, fun i H v H' => H' = H /\ ∃ c, x.cps[i]? = some c /\ v = .str (chr1 c), fun i _ => x.cps.size <= i⟩
theorem zfo {P : Program} {w : World} {K : Fg} {tg : Expr} (it : Addr) (x : Str) (t : Tok) : Turn P w K tg (Itw x) [it] it (fun i h => h.IsStrIter it "str_ascii_iterator" x t i) where
  mem := by simp
  obj := fun i h st b hb => by
    have e : b = it := by simpa using hb
    subst e;obtain ⟨o, e, c, d⟩ := st;exact ⟨o, e, fun v z => by rw [d] at z; cases z⟩
  keep := fun i h h' st k => by
    obtain ⟨o, e, r⟩ := st;exact ⟨o, k it (by simp) o e, r⟩
  item := by
    intro X hP hw hK hc i pins s σ H E I hf st hg;subst hP hw hK;have hi : i < x.cps.size := hg;obtain ⟨f0, f1, f2, f3, f4, f5⟩ := hf it (by simp);refine wpAny_pyNext_ascii_item st (c := x.cps[i]) (by simp [hi]) fun h' st' sb => ?_
    have I1 : Inv X pins σ H { s with heap := h', toks := s.toks + 1 } := I.turned (t' := s.toks + 1) (fun b o hb e => (sb.2 b hb).trans e) f0 f1 f3 f4 f5;obtain ⟨o, e, c, d⟩ := id st';exact ⟨_, rfl, de (s := { s with heap := h', toks := s.toks + 1 }) e c d (by decide) ⟨.str (chr1 x.cps[i]), H, I1, ⟨_, rfl⟩, ⟨rfl, _, by simp [hi], rfl⟩, st', fun b hb => (hf b hb).1⟩⟩
  done := by
    intro X hP hw hK hc i pins s σ H E I hf st hg;subst hP hw hK;have hi : x.cps.size <= i := hg;obtain ⟨f0, f1, f2, f3, f4, f5⟩ := hf it (by simp);exact wpAny_pyNext_ascii_end (I.ok.hd hc) st (by simp [hi]) fun h' eb => ⟨rfl, I.turned (t' := s.toks) (fun b o hb e => eb b o hb e) f0 f1 f3 f4 f5⟩
  self := fun _ _ _ _ _ st h => wpAny_pyIter_striter_ascii st h
theorem ze6 {P : Program} {w : World} {K : Fg} {tg : Expr} (it : Addr) (x : Str) (t : Tok) : Turn P w K tg (Itw x) [it] it (fun i h => h.IsStrIter it "str_iterator" x t i) where
  mem := by simp
  obj := fun i h st b hb => by
    have e : b = it := by simpa using hb
    subst e;obtain ⟨o, e, c, d⟩ := st;exact ⟨o, e, fun v z => by rw [d] at z; cases z⟩
  keep := fun i h h' st k => by
    obtain ⟨o, e, r⟩ := st;exact ⟨o, k it (by simp) o e, r⟩
  item := by
    intro X hP hw hK hc i pins s σ H E I hf st hg;subst hP hw hK;have hi : i < x.cps.size := hg;obtain ⟨f0, f1, f2, f3, f4, f5⟩ := hf it (by simp);refine wpAny_pyNext_wide_item st (c := x.cps[i]) (by simp [hi]) fun h' st' sb => ?_
    have I1 : Inv X pins σ H { s with heap := h', toks := s.toks + 1 } := I.turned (t' := s.toks + 1) (fun b o hb e => (sb.2 b hb).trans e) f0 f1 f3 f4 f5;obtain ⟨o, e, c, d⟩ := id st';exact ⟨_, rfl, de (s := { s with heap := h', toks := s.toks + 1 }) e c d (by decide) ⟨.str (chr1 x.cps[i]), H, I1, ⟨_, rfl⟩, ⟨rfl, _, by simp [hi], rfl⟩, st', fun b hb => (hf b hb).1⟩⟩
  done := by
    intro X hP hw hK hc i pins s σ H E I hf st hg;subst hP hw hK;have hi : x.cps.size <= i := hg;obtain ⟨f0, f1, f2, f3, f4, f5⟩ := hf it (by simp);exact wpAny_pyNext_wide_end (I.ok.hd hc) st (by simp [hi]) fun h' eb => ⟨rfl, I.turned (t' := s.toks) (fun b o hb e => eb b o hb e) f0 f1 f3 f4 f5⟩
  self := fun _ _ _ _ _ st h => wpAny_pyIter_striter_wide st h
def iStr (a : TE) : TI := fun σ H R => a σ H fun x H1 => ∃ z, x = .str z /\ R (Itw z) H1
theorem pi_str {X : Cx} {tg l : Expr} {tl : TE} (hl : PE X l tl) : PI X tg l (iStr tl) := by
  intro pins s σ H R I h;refine thn (hl pins s σ H _ I h) fun v s1 ⟨x, H1, I1, r1, q1⟩ => ?_
  obtain ⟨z, e, q⟩ := q1;subst e;obtain ⟨t, rfl⟩ := r1;refine wpAny_pyIter_strU ?_
  have fin : ∀ {tn : Nat -> Heap -> Prop}, Turn X.prog X.w X.K tg (Itw z) [s1.heap.objs.size] s1.heap.objs.size tn -> tn 0 (s1.heap.push { cls := .type (strIterType z), data := .fields #[.str z t, .int 0 0] }) ->
      PIE X pins σ tg R (.ref s1.heap.objs.size) { s1 with heap := s1.heap.push { cls := .type (strIterType z), data := .fields #[.str z t, .int 0 0] } } := fun {tn} T h0 => by
    refine ⟨s1.heap.objs.size, [s1.heap.objs.size], _, _, H1, rfl, I1.kept (t' := s1.toks) fun b o e => Heap.get?_push_of_some _ e, T, h0, fun b hb => ?_, q⟩;have e : b = s1.heap.objs.size := by simpa using hb
    subst e;exact I1.fpOk (Zm _) (I1.hok.fresh (Zm _))
  cases ha : z.cps.all (· < 128) with
  | true =>
    have e : strIterType z = "str_ascii_iterator" := by simp [strIterType, ha]
    refine fin (zfo _ z t) ?_;exact ⟨_, Heap.get?_push_size _ rfl, by rw [e], rfl⟩
  | false =>
    have e : strIterType z = "str_iterator" := by simp [strIterType, ha]
    refine fin (ze6 _ z t) ?_;exact ⟨_, Heap.get?_push_size _ rfl, by rw [e], rfl⟩
theorem e_iStr {a : TE} {σ : St} {H : Hp} {R : It -> Hp -> Prop} : iStr a σ H R = a σ H fun x H1 => ∃ z, x = .str z /\ R (Itw z) H1 := rfl
def xq (z : Str) (n : Nat) : Str := ⟨(List.replicate n z.cps.toList).flatten.toArray⟩
theorem ze7 : ∀ (n : Nat) (a acc : Array Nat), (List.replicate n a).foldl (· ++ ·) acc = acc ++ (List.replicate n a.toList).flatten.toArray := by
  intro n
  induction n with
  | zero => intro a acc; simp
  | succ n ih =>
    intro a acc;rw [YM, YT, ih, YM, List.flatten_cons]
    apply Array.ext'
    simp
theorem mul_is (z : Str) (n : Int) : Txt.mul z n = xq z n.toNat := by
  unfold Txt.mul xq
  by_cases h : n < 1
  . rw [if_pos h, show n.toNat = 0 by omega]; rfl
  . rw [if_neg h]
    by_cases h2 : (n == 1 || z.length == 0) = true
    . rw [if_pos h2]
      rcases Bool.or_eq_true _ _ ▸ h2 with q | q
      . have : n = 1 := by simpa using q
        subst this
        show z = _
        have : (1 : Int).toNat = 1 := rfl;rw [this];simp
      . have e : z.cps.size = 0 := by simpa [Str.length] using q
        have e2 : z.cps = #[] := Array.eq_empty_of_size_eq_zero e;obtain ⟨c⟩ := z;simp only at e2;subst e2;simp
    . rw [if_neg h2, ze7]
      simp
section
variable {X : Cx}
def rMulS : R2 := fun x y H Q => ∃ z n, x = .str z /\ y = .int n /\ -(2 ^ 62) <= n /\ n < 2 ^ 31 /\ z.length * n.toNat <= 2 ^ 20 /\ Q (.str (xq z n.toNat)) H
theorem cm : OpR X (binaryOp .Mult) rMulS := by
  intro pins s σ H x y v u Q I rx ry h;obtain ⟨z, n, rfl, rfl, h1, h2, h3, q⟩ := h;obtain ⟨t, rfl⟩ := rx;obtain ⟨t', rfl⟩ := ry;refine SB.mul ⟨?_, fun h4 h5 => ?_, fun h4 h5 => ?_⟩ fun tk k => ?_
  . rw [decide_eq_false (by omega), decide_eq_false (by omega)]; rfl
  . intro h6
    have h7 : (z.length : Int) * n <= 2 ^ 20 := by
      have : ((z.length * n.toNat : Nat) : Int) <= ((2 ^ 20 : Nat) : Int) := by exact_mod_cast h3
      rw [Int.natCast_mul, Int.toNat_of_nonneg (by omega)] at this;exact this
    have h8 : (2 ^ 63 - 1 : Int) / n * n <= z.length * n := Int.mul_le_mul_of_nonneg_right (by omega) (by omega);have h9 := Int.emod_add_mul_ediv (2 ^ 63 - 1 : Int) n;have h10 : (2 ^ 63 - 1 : Int) % n < n := Yl _ (by omega);rw [Int.mul_comm] at h8;omega
  . have : z.length * n.toNat <= sizeLine := Zd h3 (by decide)
    show decide (z.length * n.toNat > sizeLine) = false
    exact decide_eq_false (by omega)
  . rw [mul_is]
    exact ⟨.str (xq z n.toNat), H, I.tok _, ⟨_, rfl⟩, q⟩
theorem e_mulS {x y : V} {H : Hp} {Q : VK} : rMulS x y H Q = ∃ z n, x = .str z /\ y = .int n /\ -(2 ^ 62) <= n /\ n < 2 ^ 31 /\ z.length * n.toNat <= 2 ^ 20 /\ Q (.str (xq z n.toNat)) H := rfl
end
theorem hu8 {A : Around} {k : Nat} (hr : Room k A) : A.units + 8 <= cLine := by have := hr.un; omega
theorem hu9 {A : Around} {k : Nat} (hr : Room k A) : A.units + 1 + 8 <= cLine := by have := hr.un; omega
theorem e_ixS {x y : V} {H : Hp} {Q : VK} : rIxS x y H Q = ∃ z i c, x = .str z /\ y = .int i /\ z.length <= sizeLine /\ atI z.cps.toList i = some c /\ Q (.str ⟨#[c]⟩) H := rfl
theorem e_rev {x : V} {vs : List V} {H : Hp} {Q : VK} : zgw x vs H Q = ∃ l xs, x = .ref l /\ vs = [] /\ H l = some (.lst xs) /\ Q .non (upd H l (.lst xs.reverse)) := rfl
theorem zin {x : V} {vs : List V} {H : Hp} {Q : VK} : rClear x vs H Q = ∃ l xs, x = .ref l /\ vs = [] /\ H l = some (.lst xs) /\ Q .non (upd H l (.lst [])) := rfl
theorem zi2 {x : V} {vs : List V} {H : Hp} {Q : VK} : rPopAt x vs H Q = ∃ l xs i k y, x = .ref l /\ vs = [.int i] /\ H l = some (.lst xs) /\ -(2 ^ 63) <= i /\ i < 2 ^ 63 /\ seqIndex? i xs.length = some k /\ xs[k]? = some y /\ Q y (upd H l (.lst (xs.eraseIdx k))) := rfl
theorem e_iT {K : Fg} {a : TE} {σ : St} {H : Hp} {R : It -> Hp -> Prop} : iTup K a σ H R = a σ H fun x H1 => ∃ p, x = .ref p /\ (∃ xs, SqT K H1 p xs) /\ R (Itt K p) H1 := rfl
section
variable {X : Cx}
def rJoin (K : Fg) : V -> List V -> Hp -> VK -> Prop := fun x vs H Q => ∃ sep b texts, x = .str sep /\ vs = [.ref b] /\ SqL K H b (texts.map V.str) /\ JoinOk sep texts = true /\ Q (.str (Txt.join sep texts)) H
theorem e_join {K : Fg} {x : V} {vs : List V} {H : Hp} {Q : VK} : rJoin K x vs H Q = ∃ sep b texts, x = .str sep /\ vs = [.ref b] /\ SqL K H b (texts.map V.str) /\ JoinOk sep texts = true /\ Q (.str (Txt.join sep texts)) H := rfl
end
section
variable {σ : St} {k : Nat} {g : TG} {tt : TT} {te : TE} {H1 : Hp} {Fin : List V -> Hp -> Prop}
theorem jh {K : Fg} {a : Addr} {xs : List V} (Pv : Nat -> List V -> Hp -> Prop) (h0 : Pv 0 [] H1) (hz : ∀ i ys H, i <= xs.length -> Pv i ys H -> ys.length <= sizeLine /\ SqT K H a xs)
    (hs : ∀ i x ys H, xs[i]? = some x -> Pv i ys H -> g x (List.replicate k none ++ σ) H fun σ2 H2 => σ2.drop k = σ /\ tt σ2 H2 fun b H3 => if b = true then te σ2 H3 fun v H4 => Pv (i + 1) (ys ++ [v]) H4 else Pv (i + 1) ys H3)
    (hd : ∀ ys H, Pv xs.length ys H -> Fin ys H) : sy (Itt K a) σ k g tt te H1 Fin := by
  refine ⟨fun i m ys H => m = xs.length - i /\ i <= xs.length /\ Pv i ys H, ⟨xs.length, by simp, ZE _, h0⟩, ?_⟩
  rintro i m ys H ⟨rfl, hi, p⟩
  have q := (hz i ys H hi p).2;refine ⟨(hz i ys H hi p).1, ?_⟩
  by_cases hlt : i < xs.length
  . refine .inr ⟨⟨xs, xs[i], q, by simp [hlt]⟩, Pv (i + 1), fun ys' H' p' => ⟨xs.length - (i + 1), by omega, rfl, hlt, p'⟩, fun x H' y => ?_⟩
    obtain ⟨e, y⟩ := y;subst e;exact hs i x ys _ (y xs q) p
  . have e : i = xs.length := by omega
    subst e;exact .inl ⟨⟨xs, q, Zm _⟩, hd ys H p⟩
end
theorem yd {e : Expr} {es : List Expr} {env : Env} (h : ∀ e' p, e ≠ .Starred e' p) : starEach (e :: es) env = (false, eval e env) :: starEach es env := by
  cases e <;> first | rfl | exact absurd rfl (h _ _)
def iSeq (K : Fg) (tl : TE) : TI := fun σ H R => tl σ H fun x H1 => ∃ a, x = .ref a /\ (((∃ xs, SqL K H1 a xs) /\ R (Itl K a) H1) \/ ((∃ xs, SqT K H1 a xs) /\ R (Itt K a) H1))
theorem e_iSeq {K : Fg} {tl : TE} {σ : St} {H : Hp} {R : It -> Hp -> Prop} : iSeq K tl σ H R = tl σ H fun x H1 => ∃ a, x = .ref a /\ (((∃ xs, SqL K H1 a xs) /\ R (Itl K a) H1) \/ ((∃ xs, SqT K H1 a xs) /\ R (Itt K a) H1)) := rfl
section
variable {X : Cx}
def rTupL (K : Fg) : List V -> Hp -> VK -> Prop := fun xs H Q => ∃ p ys, xs = [.ref p] /\ SqL K H p ys /\ ∀ l, H l = none -> Q (.ref l) (upd H l (.tup ys))
theorem qq : ux X (.type "tuple") (rTupL X.K) := fun pins s σ H xs us Q I r h => by
  obtain ⟨p, ys, e, hq, q⟩ := h;exact ac pins s σ H xs us Q I r ⟨p, ys, e, .inl ⟨hq, q⟩⟩
theorem e_tupL {K : Fg} {xs : List V} {H : Hp} {Q : VK} : rTupL K xs H Q = ∃ p ys, xs = [.ref p] /\ SqL K H p ys /\ ∀ l, H l = none -> Q (.ref l) (upd H l (.tup ys)) := rfl
end
theorem e_disp {trs : List (TE × TE)} {σ : St} {H : Hp} {Q : VK} : tDisp trs σ H Q = ∀ p, H p = none -> l7 trs σ (upd H p (.dK [])) fun ps H2 => H2 p = some (.dK []) /\ ∃ kvs : List (Key × V), ps = kvs.map (fun kv => (kV kv.1, kv.2)) /\ kvs.length <= 15 /\ Q (.ref p) (upd H2 p (.dK (zf3 [] kvs))) := rfl
theorem zg7 {σ : St} {H : Hp} {Q : List (V × V) -> Hp -> Prop} : l7 [] σ H Q = Q [] H := rfl
theorem zh4 {tk tv : TE} {r : List (TE × TE)} {σ : St} {H : Hp} {Q : List (V × V) -> Hp -> Prop} : l7 ((tk, tv) :: r) σ H Q = tk σ H fun x H1 => tv σ H1 fun y H2 => l7 r σ H2 fun ps H3 => Q ((x, y) :: ps) H3 := rfl
end L2
namespace L2
open PySem PySem.Spec PyProof.Rows
section
variable {X : Cx}
def rMinL (K : Fg) (xs : List V) (H : Hp) (Q : VK) : Prop := ∃ (p : Addr) (ns : List Int), xs = [.ref p] /\ SqL K H p (ns.map V.int) /\ 0 < ns.length /\ ∀ m, m ∈ ns -> (∀ a ∈ ns, m <= a) -> Q (.int m) H
def rMaxL (K : Fg) (xs : List V) (H : Hp) (Q : VK) : Prop := ∃ (p : Addr) (ns : List Int), xs = [.ref p] /\ SqL K H p (ns.map V.int) /\ 0 < ns.length /\ ∀ m, m ∈ ns -> (∀ a ∈ ns, a <= m) -> Q (.int m) H
theorem e_minL {K : Fg} {xs : List V} {H : Hp} {Q : VK} : rMinL K xs H Q = ∃ (p : Addr) (ns : List Int), xs = [.ref p] /\ SqL K H p (ns.map V.int) /\ 0 < ns.length /\ ∀ m, m ∈ ns -> (∀ a ∈ ns, m <= a) -> Q (.int m) H := rfl
theorem e_maxL {K : Fg} {xs : List V} {H : Hp} {Q : VK} : rMaxL K xs H Q = ∃ (p : Addr) (ns : List Int), xs = [.ref p] /\ SqL K H p (ns.map V.int) /\ 0 < ns.length /\ ∀ m, m ∈ ns -> (∀ a ∈ ns, a <= m) -> Q (.int m) H := rfl
theorem zgr (hc : X.calm = true) : ux X (.builtin "min") (rMinL X.K) := by
  intro pins s σ H xs us Q I r h;obtain ⟨p, ns, rfl, hq, hne, q⟩ := h;obtain ⟨u, rfl, rx⟩ := Vals.one r;cases rx;obtain ⟨its, rv, pl, hz⟩ := I.list hq;have hi : IntsAre its ns := fz rv;obtain ⟨zs, hx⟩ := hi.allInts.items;have hl' : s.heap.IsList p (intItems zs) := hx ▸ pl.isList
  have hns : ns = zs.toList.map (·.1) := by
    rw [<- nums_intItems, <- hx];exact (show numsOf its.toArray.toList = ns from hi.numsOf).symm
  have hsz : 0 < zs.size := by
    have h3 := hne; rw [hns, Za, ZN] at h3; exact h3
  refine min_intList (I.ok.hd hc) hl' hsz fun v h' tk hv hk => ?_
  obtain ⟨t, rfl⟩ := intItems_at hv;obtain ⟨h1, h2⟩ := argBest_lt (numAt zs) (zs.size - 1);refine ⟨V.int _, H, I.kept hk, ⟨_, rfl⟩, q _ ?_ fun a ha => ?_⟩
  . rw [hns, numAt_eq]; exact getD_mem (by rw [Za, ZN]; omega)
  . rw [hns] at ha
    obtain ⟨j, hj, rfl⟩ := mem_getD ha;rw [Za, ZN] at hj;rw [<- numAt_eq]; exact h2 j (by omega)
theorem zfj (hc : X.calm = true) : ux X (.builtin "max") (rMaxL X.K) := by
  intro pins s σ H xs us Q I r h;obtain ⟨p, ns, rfl, hq, hne, q⟩ := h;obtain ⟨u, rfl, rx⟩ := Vals.one r;cases rx;obtain ⟨its, rv, pl, hz⟩ := I.list hq;have hi : IntsAre its ns := fz rv;obtain ⟨zs, hx⟩ := hi.allInts.items;have hl' : s.heap.IsList p (intItems zs) := hx ▸ pl.isList
  have hns : ns = zs.toList.map (·.1) := by
    rw [<- nums_intItems, <- hx];exact (show numsOf its.toArray.toList = ns from hi.numsOf).symm
  have hsz : 0 < zs.size := by
    have h3 := hne; rw [hns, Za, ZN] at h3; exact h3
  refine max_intList (I.ok.hd hc) hl' hsz fun v h' tk hv hk => ?_
  obtain ⟨t, rfl⟩ := intItems_at hv;obtain ⟨h1, h2⟩ := argBest_gt (numAt zs) (zs.size - 1);refine ⟨V.int _, H, I.kept hk, ⟨_, rfl⟩, q _ ?_ fun a ha => ?_⟩
  . rw [hns, numAt_eq]; exact getD_mem (by rw [Za, ZN]; omega)
  . rw [hns] at ha
    obtain ⟨j, hj, rfl⟩ := mem_getD ha;rw [Za, ZN] at hj;rw [<- numAt_eq]; exact h2 j (by omega)
end
end L2
namespace L2
open PySem PySem.Spec PyProof.Rows
section
variable {prog : Program} {w : World} {A : Around} {E : Value -> Shared -> Prop} {s : Shared}
end
section
variable {X : Cx}
def zhk (K : Fg) (t : TA) : TE := fun σ H Q => t σ H fun vs H1 => ∃ p xs, vs = [.ref p] /\ SqL K H1 p xs /\ ∀ l, H1 l = none -> Q (.ref l) (upd H1 l (.lst xs.reverse))
theorem zge {K : Fg} {t : TA} {σ : St} {H : Hp} {Q : VK} : zhk K t σ H Q = t σ H fun vs H1 => ∃ p xs, vs = [.ref p] /\ SqL K H1 p xs /\ ∀ l, H1 l = none -> Q (.ref l) (upd H1 l (.lst xs.reverse)) := rfl
def zg6 (t : TA) : TE := fun σ H Q => t σ H fun vs H1 => ∃ j : Nat, vs = [.int j] /\ j <= 1000 /\ ∀ l, H1 l = none -> Q (.ref l) (upd H1 l (.lst (((List.range j).map fun i : Nat => ((i : Nat) : Int)).map V.int)))
theorem zfl {t : TA} {σ : St} {H : Hp} {Q : VK} : zg6 t σ H Q = t σ H fun vs H1 => ∃ j : Nat, vs = [.int j] /\ j <= 1000 /\ ∀ l, H1 l = none -> Q (.ref l) (upd H1 l (.lst (((List.range j).map fun i : Nat => ((i : Nat) : Int)).map V.int))) := rfl
end
end L2
namespace L2
open PySem PySem.Spec PyProof.Rows
def seen (val : Nat -> Str) : Nat -> List Str
  | 0 => []
  | i + 1 => if val i ∈ seen val i then seen val i else seen val i ++ [val i]
theorem ax (val : Nat -> Str) : ∀ i, (seen val i).length <= i
  | 0 => Zm _
  | i + 1 => by
    have := ax val i;unfold seen
    split
    . omega
    . rw [Zo, Yo]; omega
theorem zhp (val : Nat -> Str) (i : Nat) (k : Str) : (decide (k ∈ seen val i) || decide (k = val i)) = decide (k ∈ seen val (i + 1)) := by
  conv => rhs; unfold seen
  split
  . rename_i h
    by_cases e : k = val i
    . subst e; simp [h]
    . simp [e]
  . simp
theorem zea (val : Nat -> Str) (i : Nat) : (if decide (val i ∈ seen val i) = true then (seen val i).length else (seen val i).length + 1) = (seen val (i + 1)).length := by
  conv => rhs; unfold seen
  by_cases h : val i ∈ seen val i
  . simp [h]
  . simp [h]
section
variable {prog : Program} {w : World} {A : Around} {R : Result -> Shared -> Prop} {I : Addr} {fp wr : List Addr} {G : Array GenState -> Array GenState -> Prop} {n : Nat} {P : Nat -> Value -> Prop} {St : Nat -> Shared -> Prop}
theorem zaf (W : WalksS prog w A.in1 I fp wr G n P St) (T : Addr) (hT : T ∉ fp) (val : Nat -> Str) (hval : ∀ i v, P i v -> ∃ t, v = .str (val i) t) (hb : n + 1 < scanBound) :
    ∀ (k i : Nat) (s : Shared), n - i = k -> i <= n -> St i s -> s.heap.SetOf (PySem.strKind prog w) T (fun k' => decide (k' ∈ seen val i)) (seen val i).length ->
      (∀ s', Moved (T :: wr) G s s' -> s'.heap.SetOf (PySem.strKind prog w) T (fun k' => decide (k' ∈ seen val n)) (seen val n).length -> R (.ok (.ret .none)) s') ->
      codeAny (model prog w) A (.builtin "set.update.loop" ⟨[.ref T, .ref I], []⟩) R s := by
  have hTw : T ∉ wr := fun h => hT (W.sub _ h)
  have sub : ∀ b ∈ wr, b ∈ T :: wr := fun b h => Zv _ h
  intro k
  induction k with
  | zero =>
    intro i s hk hi hst hS hR;obtain rfl : i = n := by omega
    refine codeAny_builtin PyProof.Rows.F.entry_set_update_loop ?_;rw [Around.under_plainId PyProof.Rows.F.plain_set_update_loop _]
    show wpAny _ A.in1 (pyNext (.ref I) >>= _) _ _ s
    refine wpAny_bind (W.done s _ _ hst fun s' hm => ?_);refine wpAny_pure (hR s' (hm.mono sub) ?_);obtain ⟨o, es, ep, t, ho, r⟩ := hS;exact ⟨o, es, ep, t, hm.heap T _ hTw ho, r⟩
  | succ k ih =>
    intro i s hk hi hst hS hR;have hlt : i < n := by omega
    refine codeAny_builtin PyProof.Rows.F.entry_set_update_loop ?_;rw [Around.under_plainId PyProof.Rows.F.plain_set_update_loop _]
    show wpAny _ A.in1 (pyNext (.ref I) >>= _) _ _ s
    refine wpAny_bind (W.item i s _ _ hlt hst fun v s' hP hst' hm => ?_);obtain ⟨t, rfl⟩ := hval i v hP
    have hS' : s'.heap.SetOf (PySem.strKind prog w) T (fun k' => decide (k' ∈ seen val i)) (seen val i).length := by
      obtain ⟨o, es, ep, tb, ho, r⟩ := hS;exact ⟨o, es, ep, tb, hm.heap T _ hTw ho, r⟩
    show wpAny _ A.in1 (holding [Value.str (val i) t] (setAdd T (.str (val i) t)) >>= _) _ _ s'
    refine wpAny_bind (wpAny_holding ?_);unfold setAdd;refine wpAny_holding (wpAny_bind ((PySem.strKind prog w).pyHash (k := val i) (strKind_is _ _ _ _) ?_));have room : (seen val i).length + 1 < scanBound := by have := ax val i; omega
    refine wpAny_setAddHashed_of (knd := PySem.strKind prog w) (s := { s' with toks := s'.toks + 1 }) (strKind_is _ _ _ _) rfl hS' room fun h' hsb hS2 => ?_
    have hSi : h'.SetOf (PySem.strKind prog w) T (fun k' => decide (k' ∈ seen val (i + 1))) (seen val (i + 1)).length := by
      have e1 := zea val i;have e2 : (fun k' => decide (k' ∈ seen val (i + 1))) = fun k' => (decide (k' ∈ seen val i) || decide (k' = val i)) := funext fun k' => (zhp val i k').symm
      rw [<- e1, e2];exact hS2
    refine wpAny_pure ⟨plainId_quiet PyProof.Rows.F.plain_set_update_loop _, ih (i + 1) _ (by omega) hlt (W.frame _ s' _ _ hst' (Yx _) fun b hb o e => ?_) hSi fun s2 hm2 hS2' => ?_⟩
    . rw [hsb.2 b (fun z : b = T => hT (z ▸ hb))]; exact e
    . refine hR s2 (Moved.trans W.gtrans ((hm.mono sub).then_heap (Yx _) fun b o hb e => ?_) hm2) hS2'
      rw [hsb.2 b (fun z : b = T => hb (z ▸ ZA))]; exact e
end
abbrev setO (led : Bool) : Obj := { cls := .type "set", dict := none, data := .set #[] 0 (.fresh 0 0 led) }
section
variable {prog : Program} {w : World} {A : Around} {E : Value -> Shared -> Prop} {s : Shared}
def zcw (prog : Program) (w : World) (s : Shared) (val : Nat -> Str) (n : Nat) (h' : Heap) : Prop :=
  h'.SetOf (PySem.strKind prog w) s.heap.objs.size (fun k' => decide (k' ∈ seen val n)) (seen val n).length /\ ∀ b o, b < s.heap.objs.size -> s.heap.get? b = some o -> h'.get? b = some o
set_option maxHeartbeats 3200000 in
theorem ag {l : Addr} {items : Array Value} {val : Nat -> Str} {Q : Value -> Shared -> Prop} (hh : A.handled = none) (hl : s.heap.IsList l items) (hv : ∀ (i : Nat) v, items[i]? = some v -> ∃ t, v = .str (val i) t) (hb : items.size + 1 < scanBound)
    (h : ∀ (h' : Heap) (tk : Nat), zcw prog w s val items.size h' -> Q (.ref s.heap.objs.size) { s with heap := h', toks := tk }) : wpAny (model prog w) A (call (.type "set") [.ref l]) Q E s := by
  obtain ⟨c, tl, hmro⟩ := F.called_set.mro;have hmade := F.called_set.made;have hsub := F.called_set.sub;refine wpAny_call (codeAny_of_tree ?_)
  show wpAny _ _ (callAny (.type "set") _) _ _ _
  refine wpAny_pure ⟨Code.quiet_builtin _ (by decide +kernel), codeAny_builtin F.entry_type_call ?_⟩;rw [Around.under_plain (weight_type_call_type "set" [.ref l] []) rfl];have h1 := F.called_set.notType;have h2 := F.called_set.canCreate;have hct := F.typeCall_set_1 (.ref l)
  repeat (any_goals (first | assumption | wp_step))
  refine codeAny_mono (code_set_new_1 (.ref l) (E := E) (Q₁ := fun obj s₁ => ∃ led : Bool, obj = .ref s.heap.objs.size /\ s₁ = { s with heap := s.heap.push (setO led) }) fun led => ⟨led, rfl, rfl⟩) fun r s₁ hr => ?_
  match r, hr with
  | .error e, hr => exact hr
  | .ok .next, hr => exact hr.elim
  | .ok .brk, hr => exact hr.elim
  | .ok .cont, hr => exact hr.elim
  | .ok (.ret obj), hr =>
    obtain ⟨led, rfl, rfl⟩ := hr;have hS : (s.heap.push (setO led)).get? s.heap.objs.size = some (setO led) := Heap.get?_push_size _ rfl;have hT : Shared.TypeIs { s with heap := s.heap.push (setO led) } (.ref s.heap.objs.size) "set" := ⟨_, hS, rfl⟩;have hli := F.called_set.init.lookup;have hbi := F.called_set.init.bind (.ref s.heap.objs.size)
    repeat (any_goals (first | assumption | wp_step))
    refine codeAny_mono (codeAny_call_builtin (R := wants (fun r s₂ => r = .none /\ ∃ h' tk, s₂ = { s with heap := h', toks := tk } /\ zcw prog w s val items.size h') E) F.called_set.init.plain F.entry_set_init (check_set_init_1 hT ?_)) fun r₂ s₂ hr₂ => ?_
    . obtain ⟨ol, hol, hcl, nl, hdl⟩ := id hl
      have hl1 : (s.heap.push (setO led)).IsList l items := hl.push _;obtain ⟨ocls, odict, odata, oslots⟩ := ol;simp only at hcl hdl;subst hcl; subst hdl;have hol' : (s.heap.push (setO led)).get? l = some { cls := .type "list", dict := odict, data := .seq items nl, slots := oslots } := Heap.get?_push_of_some _ hol;have hsls := F.sub_list_set;have hslf := F.sub_list_frozenset;have hne : (Value.type "list" == Value.type "dict") = false := by decide
      unfold Builtin.«set.__init__» noKeywords Builtin.Frozenset.updateFrom;generalize hPI : pyIter = PI
      wp_walk
      subst hPI;refine wpAny_pyIter_list hl1 ?_;refine wpAny_bind (wpAny_runValue ?_);have hlS : l < s.heap.objs.size := Heap.lt_size hol;have hsz : (s.heap.push (setO led)).objs.size = s.heap.objs.size + 1 := size_push' ..;have hneI : l ≠ (s.heap.push (setO led)).objs.size := by rw [hsz]; exact Zs (Yg hlS)
      have hSf : s.heap.objs.size ∉ [(s.heap.push (setO led)).objs.size, l] := by
        rw [hsz];simp only [ZK, Zx, or_false, not_or];exact ⟨Zs (Yz _), ZR hlS⟩
      refine zaf ((Walks.list (by simp [hh]) _ l hneI items).toS) s.heap.objs.size hSf val hv hb (items.size - 0) 0 _ (by omega) (ZE _) ⟨⟨_, Heap.get?_push_size _ rfl, rfl, rfl⟩, hl1.push _⟩ ?_ ?_
      . have hget : ((s.heap.push (setO led)).push { cls := .type "list_iterator", data := .fields #[.ref l, .int 0 0] }).get? s.heap.objs.size = some (setO led) := Heap.get?_push_of_some _ hS
        exact (PyProof.Rows.setObjOf_fresh (knd := PySem.strKind prog w) led).setOf hget (by unfold scanBound; omega)
      . intro s' hm hS'
        rw [Moved.eq_with hm];refine wpAny_pure ?_;refine wpAny_pure ⟨rfl, s'.heap, s'.toks, rfl, hS', fun b o hb e => hm.heap b o ?_ (Heap.get?_push_of_some _ (Heap.get?_push_of_some _ e))⟩;rw [hsz];simp only [ZK, Zx, or_false, not_or];exact ⟨Zs hb, Zs (Yg hb)⟩
    . match r₂, hr₂ with
      | .error e, hr₂ => exact hr₂
      | .ok .next, hr₂ => exact hr₂.elim
      | .ok .brk, hr₂ => exact hr₂.elim
      | .ok .cont, hr₂ => exact hr₂.elim
      | .ok (.ret r), hr₂ =>
        obtain ⟨rfl, h', tk, rfl, hd⟩ := hr₂
        repeat (any_goals (first | assumption | wp_step))
        exact h _ _ hd
end
end L2
namespace L2
open PySem PySem.Spec PyProof.Rows
theorem zhn {zs : List Str} {us : List Value} (r : Vals (zs.map V.str) us) (i : Nat) (v : Value) (h : us[i]? = some v) : ∃ t, v = .str (zs.getD i ⟨#[]⟩) t := by
  have hl := r.length;rw [Za] at hl;have hi : i < zs.length := by rw [hl]; exact (Zc.mp h).1
  obtain ⟨u, hu, ru⟩ := r.get (i := i) (x := V.str zs[i]) (by simp [hi]);rw [h] at hu;cases hu;obtain ⟨t, rfl⟩ := ru;exact ⟨t, by simp [Zk, hi]⟩
section
variable {X : Cx}
def zdo (K : Fg) (t : TA) : TE := fun σ H Q => t σ H fun vs H1 => ∃ (p : Addr) (zs : List Str), vs = [.ref p] /\ SqL K H1 p (zs.map V.str) /\ zs.length <= 1000 /\ Q (.int (seen (fun i => zs.getD i ⟨#[]⟩) zs.length).length) H1
theorem zgx {K : Fg} {t : TA} {σ : St} {H : Hp} {Q : VK} : zdo K t σ H Q = t σ H fun vs H1 => ∃ (p : Addr) (zs : List Str), vs = [.ref p] /\ SqL K H1 p (zs.map V.str) /\ zs.length <= 1000 /\ Q (.int (seen (fun i => zs.getD i ⟨#[]⟩) zs.length).length) H1 := rfl
theorem zfz {e : Expr} {t : TA} {p1 p2 q1 q2 : Pos} (hc : X.calm = true) (hgL : Gl X "len") (hmL : X.mg "len" = none) (hgR : Gl X "set") (hmR : X.mg "set" = none) (ha : PA X [e] t)
    (he : starEach [e] X.env = (false, eval e X.env) :: starEach [] X.env := by rfl) (he2 : starEach [.Call (.Name "set" p2) [e] [] q2] X.env = (false, eval (.Call (.Name "set" p2) [e] [] q2) X.env) :: starEach [] X.env := by rfl) :
    PE X (.Call (.Name "len" p1) [.Call (.Name "set" p2) [e] [] q2] [] q1) (zdo X.K t) := by
  intro pins s σ H Q I h;refine wpAny_Call_Name_kw (ui I hgL hmL yi ?_);refine PyProof.Rows.callWith_builtin1 ?_ he2 rfl;rw [he2]
  show wpAny _ _ (spliced ((false, eval (.Call (.Name "set" p2) [e] [] q2) X.env) :: backTo q1 (starEach [] X.env))) _ _ s
  refine Calls.spliced_cons ?_;refine wpAny_Call_Name_kw (ui I hgR hmR bt_set ?_);refine PyProof.Rows.callWith_type1 (thn (ha q2 pins s σ H _ I h) fun us s1 ⟨vs, H1, I1, r1, q⟩ => ?_) he rfl;obtain ⟨p, zs, rfl, hq, hz, q⟩ := q;obtain ⟨u, rfl, rx⟩ := Vals.one r1;cases rx;obtain ⟨its, rv, pl, _⟩ := I1.list hq;have hlen : its.length = zs.length := by have := rv.length; rw [Za] at this; exact this.symm
  refine ag (val := fun i => zs.getD i ⟨#[]⟩) (I1.ok.hd hc) pl.isList (fun i v hv => zhn rv i v (by simpa using hv)) (by rw [Zr, hlen]; exact Ym (YA hz) (by decide)) fun h' tk hd => ?_
  refine Calls.spliced_nil ?_;obtain ⟨hS, kp⟩ := hd;rw [show its.toArray.size = zs.length by rw [Zr, hlen]] at hS;have I2 : Inv X pins σ H1 { s1 with heap := h', toks := tk } := I1.kept fun b o e => kp b o (Heap.lt_size e) e
  obtain ⟨o, es, ep, t, ho, ex, hd, _, _, hz2, hf, hn⟩ := hS;have h3 : ((es.size : Nat) : Int) < 2 ^ 63 := by unfold scanBound at hz2; omega
  refine call_len_set ho ex hd hf h3 ⟨.int es.size, H1, I2.tok _, ⟨_, rfl⟩, ?_⟩;rw [hn];exact q
def rLeS (x y : V) (H : Hp) (Q : VK) : Prop := ∃ i j, x = .str i /\ y = .str j /\ Q (.bl (!decide (j.cps.toList < i.cps.toList))) H
theorem e_leS {x y : V} {H : Hp} {Q : VK} : rLeS x y H Q = ∃ i j, x = .str i /\ y = .str j /\ Q (.bl (!decide (j.cps.toList < i.cps.toList))) H := rfl
theorem zf7 : OpR X (compareOp .LtE) rLeS := by
  intro pins s σ H x y v u Q I rx ry h;obtain ⟨i, j, rfl, rfl, q⟩ := h;obtain ⟨t, rfl⟩ := rx;obtain ⟨t', rfl⟩ := ry;exact PySem.P.le_str (yc I q rfl)
end
section
variable {σ : St} {k : Nat} {g : TG} {tt : TT} {te : TE} {H1 : Hp} {Fin : List V -> Hp -> Prop}
theorem zhd {z : Str} (Pv : Nat -> List V -> Hp -> Prop) (h0 : Pv 0 [] H1) (hz : ∀ i ys H, i <= z.cps.size -> Pv i ys H -> ys.length <= sizeLine)
    (hs : ∀ i c ys H, z.cps[i]? = some c -> Pv i ys H -> g (.str (chr1 c)) (List.replicate k none ++ σ) H fun σ2 H2 => σ2.drop k = σ /\ tt σ2 H2 fun b H3 => if b = true then te σ2 H3 fun v H4 => Pv (i + 1) (ys ++ [v]) H4 else Pv (i + 1) ys H3)
    (hd : ∀ ys H, Pv z.cps.size ys H -> Fin ys H) : sy (Itw z) σ k g tt te H1 Fin := by
  refine ⟨fun i m ys H => m = z.cps.size - i /\ i <= z.cps.size /\ Pv i ys H, ⟨z.cps.size, by simp, ZE _, h0⟩, ?_⟩
  rintro i m ys H ⟨rfl, hi, p⟩
  refine ⟨hz i ys H hi p, ?_⟩
  by_cases hlt : i < z.cps.size
  . refine .inr ⟨hlt, Pv (i + 1), fun ys' H' p' => ⟨z.cps.size - (i + 1), by omega, rfl, hlt, p'⟩, fun x H' y => ?_⟩
    obtain ⟨e, c, e2, y⟩ := y;subst e y;exact hs i c ys _ e2 p
  . have e : i = z.cps.size := by omega
    subst e;exact .inl ⟨Zm _, hd ys H p⟩
end
def ij : List Int -> List V
  | [] => []
  | i :: is => .int i :: ij is
theorem e_vI0 : ij [] = [] := rfl
theorem e_vI {i : Int} {is : List Int} : ij (i :: is) = .int i :: ij is := rfl
def tInts (ns : List Int) : TA := fun _ H Q => Q (ij ns) H
theorem e_ints {ns : List Int} {σ : St} {H : Hp} {Q : List V -> Hp -> Prop} : tInts ns σ H Q = Q (ij ns) H := rfl
end L2
namespace L2
open PySem PySem.Spec PyProof.Rows
section
variable {X : Cx}
def rIsB (x y : V) (H : Hp) (Q : VK) : Prop := ∃ b c, x = .bl b /\ y = .bl c /\ Q (.bl (b == c)) H
theorem e_isB {x y : V} {H : Hp} {Q : VK} : rIsB x y H Q = ∃ b c, x = .bl b /\ y = .bl c /\ Q (.bl (b == c)) H := rfl
end
end L2
namespace L2
open PySem PySem.Spec PyProof.Rows
theorem zcz {α : Type} {l : List α} {k : Nat} {x : α} (h : l[k]? = some x) : l.drop k = x :: l.drop (k + 1) := by
  obtain ⟨hk, e⟩ := Zc.mp h;rw [List.drop_eq_getElem_cons hk, e]
theorem ig {X : Cx} {body : List Stmt} {k : Nat} {st : Stmt} {t ts : TS} (hs : PS X st t) (h : body[k]? = some st) (hr : PSs X (body.drop (k + 1)) ts) : PSs X (body.drop k) (tSeq t ts) := by
  rw [zcz h];exact zk hs hr
theorem zik {X : Cx} {body : List Stmt} {k : Nat} {st : Stmt} {t : TS} (hs : PS X st t) (h : body[k]? = some st) (hl : body[k + 1]? = none) : PSs X (body.drop k) t := by
  rw [zcz h, List.drop_eq_nil_of_le (List.getElem?_eq_none_iff.mp hl)];exact zg hs
theorem zh2 {X : Cx} {body : List Stmt} {t : TS} (h : PSs X (body.drop 0) t) : PSs X body t := h
end L2
namespace L2
open PySem PySem.Spec PyProof.Rows
section
variable {prog : Program} {w : World} {A : Around} {E : Value -> Shared -> Prop} {s : Shared}
theorem zhg {t b : Addr} {vs ws : List Value} {Q : Value -> Shared -> Prop} (ht : IsTup s.heap t vs.toArray) (hb : IsTup s.heap b ws.toArray) (hv : vs = []) (h0 : Q (.ref b) s) :
    wpAny (model prog w) A (binaryOp .Add (.ref t) (.ref b)) Q E s := by
  obtain ⟨⟨cls, dd, data, sl⟩, ho, hc, n, hd⟩ := id ht;obtain ⟨⟨cls2, dd2, data2, sl2⟩, ho2, hc2, n2, hd2⟩ := id hb;simp only at hc hd hc2 hd2;subst hc hd hc2 hd2
  exact concat_meets ⟨_, ho, rfl⟩ ⟨_, ho2, rfl⟩ noFill_tuple_add seq_tuple_add PySem.F.slot_tuple_add PySem.F.entry_tuple_add (PySem.F.args_tuple_add_2 _ _)
    (tuple_addW0 t b vs.toArray ws.toArray n n2 dd dd2 sl sl2 (by simp [hv])) ⟨ho, ho2, h0⟩
end
theorem za5 {H : Hp} {a : Addr} {o : HO} (n : H a = none) : Same H (upd H a o) := fun b u e => by
  rw [zr (fun z => by rw [z, n] at e; cases e)]; exact e
section
variable {X : Cx}
def rCatH : R2 := fun x y H Q => ∃ a b xs ys, x = .ref a /\ y = .ref b /\ H a = some (.tup xs) /\ H b = some (.tup ys) /\ xs.length + ys.length <= sizeLine /\ ∀ H' p, Same H H' -> H' p = some (.tup (xs ++ ys)) -> Q (.ref p) H'
theorem e_catH {x y : V} {H : Hp} {Q : VK} : rCatH x y H Q = ∃ a b xs ys, x = .ref a /\ y = .ref b /\ H a = some (.tup xs) /\ H b = some (.tup ys) /\ xs.length + ys.length <= sizeLine /\ ∀ H' p, Same H H' -> H' p = some (.tup (xs ++ ys)) -> Q (.ref p) H' := rfl
theorem ri : OpR X (binaryOp .Add) rCatH := by
  intro pins s σ H x y v u Q I rx ry h;obtain ⟨a, b, xs, ys, rfl, rfl, ha, hb, hz, q⟩ := h
  by_cases e1 : xs = []
  . subst e1
    cases rx;cases ry;obtain ⟨its, r1, p1, _⟩ := I.tuple (SqT.of ha);obtain ⟨its2, r2, p2, _⟩ := I.tuple (SqT.of hb);exact zhg p1 p2 (r1.nil_iff.mpr rfl) ⟨.ref b, H, I, rfl, q H b (Same.refl _) hb⟩
  . refine zhy pins s σ H (.ref a) (.ref b) v u Q I rx ry ⟨a, b, xs, ys, rfl, rfl, .of ha, .of hb, e1, hz, fun e2 => ?_, fun e2 p hp => ?_⟩
    . subst e2
      exact q H a (Same.refl _) (by rw [ha, Ye])
    . exact q _ p (za5 hp) zf
theorem zgy {x : V} {vs : List V} {H : Hp} {Q : VK} : zde x vs H Q = ∃ l b xs zs, x = .ref l /\ vs = [.ref b] /\ H l = some (.lst xs) /\ H b = some (.lst zs) /\ xs.length + zs.length <= sizeLine /\ Q .non (upd H l (.lst (xs ++ zs))) := rfl
end
def iRngD (ta : TA) : TI := fun σ H R => ta σ H fun vs H1 => ∃ i j : Int, vs = [.int i, .int j, .int (-1)] /\ (-(2 ^ 61) <= i /\ i < 2 ^ 61 /\ -(2 ^ 61) <= j /\ j < 2 ^ 61) /\ R (Its i (-1) (i - j).toNat) H1
theorem e_rngD {ta : TA} {σ : St} {H : Hp} {R : It -> Hp -> Prop} : iRngD ta σ H R = ta σ H fun vs H1 => ∃ i j : Int, vs = [.int i, .int j, .int (-1)] /\ (-(2 ^ 61) <= i /\ i < 2 ^ 61 /\ -(2 ^ 61) <= j /\ j < 2 ^ 61) /\ R (Its i (-1) (i - j).toNat) H1 := rfl
section
open HT
variable {prog : Program} {w : World} {A : Around} {E : Value -> Shared -> Prop} {s : Shared}
theorem i3 {t sl : Addr} {items : Array Value} {vl vu : Value} {lo hi : Option Int} {Q : Value -> Shared -> Prop} (ht : IsTup s.heap t items) (hs : s.heap.IsSliceOf sl vl vu .none) (pl : IsPart vl lo) (pu : IsPart vu hi)
    (hw : sIx items.size 0 lo = 0 /\ sIx items.size items.size hi = items.size) (h : Q (.ref t) s) : wpAny (model prog w) A (getItem (.ref t) (.ref sl)) Q E s := by
  obtain ⟨os, hos, hcs, hds⟩ := id hs;have hTs : s.TypeIs (.ref sl) "slice" := ⟨os, hos, hcs⟩;unfold getItem
  try with_reducible refine wpAny_holding ?_
  first | refine wpAny_bind (wpAny_pure ?_) | skip
  refine wpAny_bind (wpAny_sequenceKey ht.typeIs (by decide) ?_)
  refine wpAny_bind (wpAny_callSpecial?_slot (name := Str.ofString "__getitem__") ht.typeIs PyProof.Rows.slot_tuple_getitem
    (wpAny_call_entry PyProof.Rows.slot_tuple_getitem ht.typeIs entry_tuple_getitem ?_ (args_tuple_getitem _ _)))
  show wpAny _ _ (Builtin.Tuple.tupleItemsOf (.ref t) >>= _) _ _ s
  refine wpAny_bind (tupleItemsOf_ ht ?_);refine wpAny_bind (wpAny_typeOf hTs ?_);rw [if_pos (by decide)];refine wpAny_bind (o9 hs pl pu ?_)
  have hyes : (((sIx items.size 0 lo : Nat) : Int) == 0 && (1 : Int) == 1 && (sIx items.size items.size hi - sIx items.size 0 lo) == items.size) = true := by
    rw [hw.1, hw.2];simp
  show wpAny _ _ (if (((sIx items.size 0 lo : Nat) : Int) == 0 && (1 : Int) == 1 && (sIx items.size items.size hi - sIx items.size 0 lo) == items.size) = true then _ else _) _ _ s
  rw [if_pos hyes];unfold Builtin.Tuple.tupleIsExact;refine wpAny_bind (wpAny_bind (wpAny_typeOf ht.typeIs (wpAny_pure ?_)));rw [if_pos (by decide)];exact wpAny_bind (wpAny_rule (wpAny_pure ⟨_, rfl, wpAny_pure h⟩))
end
section
variable {X : Cx}
def rSlH : V -> Option Int -> Option Int -> Hp -> VK -> Prop := fun x lo hi H Q => ∃ a xs, x = .ref a /\ H a = some (.tup xs) /\ ∀ H' p, Same H H' -> H' p = some (.tup (cutV xs lo hi)) -> Q (.ref p) H'
theorem e_slH {x : V} {lo hi : Option Int} {H : Hp} {Q : VK} : rSlH x lo hi H Q = ∃ a xs, x = .ref a /\ H a = some (.tup xs) /\ ∀ H' p, Same H H' -> H' p = some (.tup (cutV xs lo hi)) -> Q (.ref p) H' := rfl
theorem im : SlR X rSlH := by
  intro pins s σ H x v vl vu lo hi sl Q I rx hs pl pu h;obtain ⟨a, xs, rfl, hx, q⟩ := h
  by_cases hw : HT.sIx xs.length 0 lo = 0 /\ HT.sIx xs.length xs.length hi = xs.length
  . cases rx
    obtain ⟨its, r, ht, hz⟩ := I.tuple (SqT.of hx);have hlen : its.toArray.size = xs.length := by rw [Zr]; exact r.length.symm
    refine ⟨"tuple", _, PyProof.Rows.slot_tuple_getitem.lookup, ht.typeIs, ?_⟩;refine i3 ht hs pl pu (by rw [hlen]; exact hw) ⟨.ref a, H, I, rfl, q H a (Same.refl _) ?_⟩;rw [hx];unfold cutV;rw [hw.1, hw.2];simp
  . exact zam pins s σ H _ v vl vu lo hi sl Q I rx hs pl pu ⟨a, xs, rfl, .of hx, hw, fun p hp => q _ p (za5 hp) zf⟩
theorem e_slT {K : Fg} {x : V} {lo hi : Option Int} {H : Hp} {Q : VK} : rSlT K x lo hi H Q = ∃ a xs, x = .ref a /\ SqT K H a xs /\ ¬ (HT.sIx xs.length 0 lo = 0 /\ HT.sIx xs.length xs.length hi = xs.length) /\ ∀ p, H p = none -> Q (.ref p) (upd H p (.tup (cutV xs lo hi))) := rfl
theorem iq {xs : List V} {k : Nat} (h : k <= xs.length) : cutV xs none (some (k : Int)) = xs.take k := by
  unfold cutV;rw [HT.sIx_none, HT.sIx_nat];simp [YU h]
theorem mi {xs : List V} {k : Nat} (h : k <= xs.length) : cutV xs (some (k : Int)) none = xs.drop k := by
  unfold cutV;rw [HT.sIx_none, HT.sIx_nat, YU h];exact ZG (by rw [ZP]; omega)
end
end L2
namespace L2
open PySem PySem.Spec PyProof.Rows
section
variable {σ : St} {k : Nat} {g : TG} {tt : TT} {te : TE} {H1 : Hp} {Fin : List V -> Hp -> Prop}
theorem zfs {K : Fg} {a : Addr} {xs : List V} (Pv : Nat -> List V -> Hp -> Prop) (h0 : Pv 0 [] H1) (hz : ∀ i ys H, i <= xs.length -> Pv i ys H -> ys.length <= sizeLine /\ SqL K H a xs)
    (hs : ∀ i x ys H T, xs[i]? = some x -> H T = none -> Pv i ys H -> g (.ref T) (List.replicate k none ++ σ) (upd H T (.tup [.int i, x])) fun σ2 H2 => σ2.drop k = σ /\ tt σ2 H2 fun b H3 => if b = true then te σ2 H3 fun v H4 => Pv (i + 1) (ys ++ [v]) H4 else Pv (i + 1) ys H3)
    (hd : ∀ ys H, Pv xs.length ys H -> Fin ys H) : sy (Ite K a) σ k g tt te H1 Fin := by
  refine ⟨fun i m ys H => m = xs.length - i /\ i <= xs.length /\ Pv i ys H, ⟨xs.length, by simp, ZE _, h0⟩, ?_⟩
  rintro i m ys H ⟨rfl, hi, p⟩
  obtain ⟨q0, qa⟩ := hz i ys H hi p;refine ⟨q0, ?_⟩
  by_cases hlt : i < xs.length
  . refine .inr ⟨⟨xs, xs[i], qa, by simp [hlt]⟩, Pv (i + 1), fun ys' H' p' => ⟨xs.length - (i + 1), by omega, rfl, hlt, p'⟩, fun x H' y => ?_⟩
    obtain ⟨T, x', rfl, hT, rfl, hy⟩ := y;exact hs i x' ys _ T (hy xs qa) hT p
  . have e : i = xs.length := by omega
    subst e;exact .inl ⟨⟨xs, qa, Zm _⟩, hd ys H p⟩
end
end L2
namespace L2
open PySem PySem.Spec PyProof.Rows
theorem af (l : Addr) (items : Array Value) (n : Nat) (dd : Option Addr) (sl : Array (Option Value)) (x : Value) (e : Value -> Bool) (j : Nat) (hj : j < items.size)
    (hit : e items[j] = true) (hno : ∀ m (hm : m < items.size), m < j -> e items[m] = false) :
    Meets (Builtin.«tuple.index» ⟨[.ref l, x], []⟩)
      (fun A R s => s.heap.get? l = some { cls := .type "tuple", dict := dd, data := .seq items n, slots := sl } /\ (∀ y, y ∈ items -> SeqAt.EqAt A.in1 s y x (e y)) /\ R (.ok (.ret (.int j s.toks))) { s with toks := s.toks + 1 }) :=
  .of_wp fun prog w A R s h => by
    obtain ⟨hp, g, d, tk, os⟩ := s; obtain ⟨hl, he, h⟩ := h
    wp_walk using AutoSeq1.wpAny_loadPart' hl
    show wpAny (model prog w) A.in1 (forIn [:min items.size items.size] ((none, ()) : Option PySem.Fin × Unit) fun (i : Nat) _ => (match items[i]? with
      | some y => do
        let __do_lift <- eqBool y x
        if __do_lift = true then do
            let __do_lift <- retInt (i : Int)
            pure (ForInStep.done (some __do_lift, ()))
          else pure (ForInStep.yield (none, ()))
      | _ => pure (ForInStep.yield (none, ())) : Sem (ForInStep (Option PySem.Fin × Unit)))) _ _ _
    rw [Std.Legacy.Range.forIn_eq_forIn_range'];refine wpAny_forIn_list _ (fun rest b s' => b = (none, ()) /\ s' = (⟨hp, g, d, tk, os⟩ : Shared) /\ ∃ i, i <= j /\ rest = List.range' i (items.size - i)) _ ?turn ?fin _ _ ⟨rfl, rfl, 0, ZE _, by simp [Std.Legacy.Range.size]⟩
    case turn =>
      rintro k rest b s' ⟨rfl, rfl, i, hi, er⟩
      have hlt : i < items.size := by omega
      rw [show items.size - i = (items.size - (i + 1)) + 1 by omega, List.range'_succ] at er
      injection er with e1 e2
      subst e1;have ei : items[k]? = some items[k] := by simp [hlt]
      rw [ei];refine wpAny_bind (he _ (Array.getElem_mem hlt) prog w _ _ ?_)
      by_cases hk : k = j
      . subst hk
        rw [hit, if_pos rfl];refine wpAny_bind ?_;unfold retInt
        wp_walk
        exact ⟨_, rfl, h⟩
      . rw [hno k hlt (by omega)]
        wp_walk
        exact ⟨rfl, rfl, k + 1, by omega, e2⟩
    case fin =>
      rintro b s' ⟨rfl, rfl, i, hi, er⟩
      have : (List.range' i (items.size - i)).length = 0 := by rw [<- er]; rfl
      rw [List.length_range'] at this;omega
section
variable {X : Cx}
structure FirstAt (xs : List V) (y : V) (j : Nat) : Prop where
  flat : xi y = true
  flats : xs.all xi = true
  hit : ∃ z, xs[j]? = some z /\ eqV z y = true
  no : ∀ (m : Nat) (z : V), m < j -> xs[m]? = some z -> eqV z y = false
theorem FirstAt.lt {xs : List V} {y : V} {j : Nat} (h : FirstAt xs y j) : j < xs.length := by
  obtain ⟨z, e, _⟩ := h.hit;exact (Zc.mp e).1
theorem df {xs : List V} {us : List Value} {y z : V} {m : Nat} (r : Vals xs us) (fs : xs.all xi = true) (e : xs[m]? = some z) (hm : m < us.toArray.size) : eqU y us.toArray[m] = eqV z y := by
  obtain ⟨w, hw, rw'⟩ := r.get e
  have : us.toArray[m] = w := by
    have h2 := (Zc.mp hw).2
    simpa using h2
  rw [this];exact ze5 rw' (ZQ.mp fs _ (Zi e))
def zdv (K : Fg) : V -> List V -> Hp -> VK -> Prop := fun x vs H Q => ∃ p xs y j, x = .ref p /\ vs = [y] /\ SqT K H p xs /\ FirstAt xs y j /\ Q (.int (j : Nat)) H
def zdr (K : Fg) : V -> List V -> Hp -> VK -> Prop := fun x vs H Q => ∃ p xs y j, x = .ref p /\ vs = [y] /\ SqL K H p xs /\ FirstAt xs y j /\ Q (.int (j : Nat)) H
theorem zgz {K : Fg} {x : V} {vs : List V} {H : Hp} {Q : VK} : zdv K x vs H Q = ∃ p xs y j, x = .ref p /\ vs = [y] /\ SqT K H p xs /\ FirstAt xs y j /\ Q (.int (j : Nat)) H := rfl
theorem zg3 {K : Fg} {x : V} {vs : List V} {H : Hp} {Q : VK} : zdr K x vs H Q = ∃ p xs y j, x = .ref p /\ vs = [y] /\ SqL K H p xs /\ FirstAt xs y j /\ Q (.int (j : Nat)) H := rfl
theorem bp : MtR X "tuple.index" (zdv X.K) := by
  intro pins s σ H x vs v us Q I rx rvs h;obtain ⟨p, xs, y, j, rfl, rfl, hq, hF, q⟩ := h;cases rx;obtain ⟨u, rfl, ru⟩ := ml rvs;obtain ⟨its, r, pl, hz⟩ := I.tuple hq;obtain ⟨⟨cls, dd, data, sl⟩, ho, hc, n, hd⟩ := id pl;simp only at hc hd;subst hc hd;have hl := r.length;have hjl : j < its.toArray.size := by rw [Zr, <- hl]; exact hF.lt
  obtain ⟨z, e, hit⟩ := hF.hit;refine call_meets PySem.F.slot_tuple_index ⟨_, ho, rfl⟩ PySem.F.entry_tuple_index (PySem.F.args_tuple_index_2 _ _) (af p its.toArray n dd sl u (eqU y) j hjl ?_ ?_) ⟨ho, fun w hw => fi ru hF.flat r hF.flats w (by simpa using hw), ⟨.int j, H, I.tok _, ⟨_, rfl⟩, q⟩⟩
  . rw [df r hF.flats e]; exact hit
  . intro m hm hmj
    have hml : m < xs.length := by rw [hl]; simpa using hm
    rw [df r hF.flats (Zb hml)];exact hF.no m _ hmj (Zb hml)
theorem br : MtR X "list.index" (zdr X.K) := by
  intro pins s σ H x vs v us Q I rx rvs h;obtain ⟨p, xs, y, j, rfl, rfl, hq, hF, q⟩ := h;cases rx;obtain ⟨u, rfl, ru⟩ := ml rvs;obtain ⟨its, r, pl, hz⟩ := I.list hq;obtain ⟨⟨cls, dd, data, sl⟩, ho, hc, n, hd⟩ := id pl.isList;simp only at hc hd;subst hc hd;have hl := r.length;have hjl : j < its.toArray.size := by rw [Zr, <- hl]; exact hF.lt
  have hn := ld;obtain ⟨z, e, hit⟩ := hF.hit;refine call_meets PySem.F.slot_list_index ⟨_, ho, rfl⟩ PySem.F.entry_list_index (PySem.F.args_list_index_2 _ _) (SeqAt.list_indexAt p its.toArray n dd sl u (eqU y) j hjl (by have := hF.lt; omega) ?_ ?_) ⟨ho, fun w hw => fi ru hF.flat r hF.flats w (by simpa using hw), ⟨.int j, H, I.tok _, ⟨_, rfl⟩, q⟩⟩
  . rw [df r hF.flats e]; exact hit
  . intro m hm hmj
    have hml : m < xs.length := by rw [hl]; simpa using hm
    rw [df r hF.flats (Zb hml)];exact hF.no m _ hmj (Zb hml)
end
section
variable {X : Cx}
theorem hu10 {A : Around} {k : Nat} (hr : Room k A) : A.units + 1 < cLine := by have := hu9 hr; omega
def rInK (neg : Bool) : R2 := fun y x H Q => ∃ a o, x = .ref a /\ DGet H a y o /\ Q (.bl (neg ^^ o.isSome)) H
theorem e_inK {neg : Bool} {y x : V} {H : Hp} {Q : VK} : rInK neg y x H Q = ∃ a o, x = .ref a /\ DGet H a y o /\ Q (.bl (neg ^^ o.isSome)) H := rfl
def rSetD : TSet := fun o i v H Q => ∃ a H', o = .ref a /\ DPut H a i v H' /\ Q H'
theorem e_setD {o i v : V} {H : Hp} {Q : Hp -> Prop} : rSetD o i v H Q = ∃ a H', o = .ref a /\ DPut H a i v H' /\ Q H' := rfl
theorem zi0 {σ : St} {H : Hp} {Q : VK} : tDNewT σ H Q = ∀ p, H p = none -> Q (.ref p) (upd H p (.dT [])) := rfl
theorem e_dget {td ty : TE} {σ : St} {H : Hp} {Q : VK} : tDGet td ty σ H Q = td σ H fun x H1 => ty σ H1 fun y H2 => ∃ a v, x = .ref a /\ DGet H2 a y (some v) /\ Q v H2 := rfl
end
end L2
namespace L2
open PySem PySem.Spec PyProof.Rows
section
variable {X : Cx}
def tBMT (r : V -> List V -> Hp -> VK -> Prop) (to : TE) (t : TA) : TE := fun σ H Q => to σ H fun x H1 => (∃ p xs, x = .ref p /\ Rd H1 p (.tup xs)) /\ t σ H1 fun xs H2 => r x xs H2 Q
theorem e_BMT {r : V -> List V -> Hp -> VK -> Prop} {to : TE} {t : TA} {σ : St} {H : Hp} {Q : VK} : tBMT r to t σ H Q = to σ H fun x H1 => (∃ p xs, x = .ref p /\ Rd H1 p (.tup xs)) /\ t σ H1 fun xs H2 => r x xs H2 Q := rfl
theorem zfy {o e : Expr} {es : List Expr} {to : TE} {t : TA} {name : Str} {apos cpos : Pos} {id : String} {r : V -> List V -> Hp -> VK -> Prop} (pa : PlainAttrs "tuple") (slot : Slot "tuple" name id) (hty : typeOf (.builtin id) = pure (.type "method_descriptor")) (hm : MtR X id r) (ho : PE X o to) (ha : PA X (e :: es) t)
    (hbase : attributeBase o name X.env (eval o X.env) = eval o X.env := by rfl)
    (hfew : ((backTo cpos (starEach (e :: es) X.env)).all (fun x => !x.1) && (backToKw cpos (keywordEach [] X.env)).all (fun x => x.1.isSome)
      && decide ((e :: es).length + ([] : List Keyword).length + (if ([] : List Keyword).isEmpty then 0 else 1) < 30)) = true := by rfl)
    (hline : (apos.endLine == cpos.line) = true := by rfl) (hs : starEach (e :: es) X.env = (false, eval e X.env) :: starEach es X.env := by rfl) (hplain : (backTo cpos (starEach es X.env)).any (·.1) = false := by rfl) :
    PE X (.Call (.Attribute o name apos) (e :: es) [] cpos) (tBMT r to t) := by
  intro pins s σ H Q I h;refine wpAny_Call_method_late hbase hfew hline rfl (thn (ho pins s σ H _ I h) fun v s1 ⟨x, H1, I1, r1, ⟨p, ys, ex, hp⟩, q1⟩ => ?_);subst ex;obtain rfl : v = Value.ref p := r1;obtain ⟨z, its, rr, ob, e1, c1, n1, d1, f1⟩ := (show ObjOk X.prog X.w H1 s1.heap p (.tup ys) from hp.ok I1.hok);have h1 : s1.TypeIs (.ref p) "tuple" := ⟨ob, e1, c1⟩
  have h2 : ∀ a, Value.ref p = .ref a -> ∃ ob, s1.heap.get? a = some ob /\ ob.dict = none := fun a e => by
    cases e;exact ⟨ob, e1, f1⟩
  refine ⟨"tuple", id, pa, slot, hty, h1, h2, ?_⟩;have hA := ha cpos pins s1 σ H1 _ I1 q1;rw [hs] at hA ⊢;refine Calls.callWith_builtin (by show (false || (backTo cpos (starEach es X.env)).any (·.1)) = false; rw [hplain] <;> rfl) (Calls.evalArgs_plain ?_);exact thn hA fun us s2 ⟨vs, H2, I2, r2, q2⟩ => hm pins s2 σ H2 (.ref p) vs (.ref p) us Q I2 rfl r2 q2
end
end L2
namespace L2
open PySem PySem.Spec PyProof.Rows
theorem zcn {i : Int} {n : Nat} (h1 : -(2 ^ n) < i) (h2 : i < 2 ^ n) : Builtin.Int.intBits i <= n := by
  unfold Builtin.Int.intBits
  split
  . exact ZE _
  . rename_i h
    have h0 : i ≠ 0 := fun e => h (by rw [e]; rfl)
    have hn : i.natAbs < 2 ^ n := by
      have e : ((2 ^ n : Nat) : Int) = (2 : Int) ^ n := by rw [Int.natCast_pow]; rfl
      have : (i.natAbs : Int) < ((2 ^ n : Nat) : Int) := by rw [e]; omega
      exact_mod_cast this
    exact (Nat.log2_lt (by omega)).mpr hn
def CMulB (i j : Int) : Prop := (-(10 ^ 60) <= i /\ i <= 10 ^ 60) /\ -(10 ^ 60) <= j /\ j <= 10 ^ 60
theorem CMulB.ok {i j : Int} (h : CMulB i j) : IntMulOk i j := by
  have e : (10 : Int) ^ 60 < 2 ^ 200 := by decide
  obtain ⟨⟨a, b⟩, c, d⟩ := h;exact .of_bits (Zd (zcn (n := 200) (by omega) (by omega)) (by decide)) (Zd (zcn (n := 200) (by omega) (by omega)) (by decide))
theorem zib {X : Cx} : OpR X (binaryOp .Mult) (rI CMulB fun i j => .int (i * j)) := opI fun _ _ _ _ _ _ _ hc q => mul_int q hc.ok
end L2
namespace L2
open PySem
def SeqH (h : Heap) (l : Addr) (xs : Array Value) : Prop := ∃ o n, h.get? l = some o /\ o.data = .seq xs n
section
variable {prog : Program} {w : World} {A : Around} {E : Value -> Shared -> Prop} {s : Shared}
theorem i4 {it t : Addr} {i : Nat} {items : Array Value} {x : Value} {Q : Value -> Shared -> Prop} (hit : s.heap.IsTupleIter it t i)
    (ht : SeqH s.heap t items) (hx : items[i]? = some x) (hQ : ∀ h', h'.IsTupleIter it t (i + 1) -> Heap.SameBut it s.heap h' -> Q x { s with heap := h' }) :
    wpAny (model prog w) A (Builtin.SmallTypes.nextOf (.ref it)) Q E s := by
  obtain ⟨o, ho, hc, hd⟩ := id hit;obtain ⟨ol, nl, hol, hdl⟩ := ht;unfold Builtin.SmallTypes.nextOf
  refine wpAny_bind (wpAny_callSpecial?_slot (name := Str.ofString "__next__") hit.typeIs F.slot_tuple_iterator_next
    (wpAny_call_entry F.slot_tuple_iterator_next hit.typeIs F.entry_tuple_iterator_next ?_ (F.args_tuple_iterator_next_1 _)))
  show wpAny _ _ (field (.ref it) 0 >>= _) _ _ s
  refine wpAny_bind (wpAny_field ho hd (x := .ref t) rfl ?_)
  show wpAny _ _ (if (Value.ref t == Value.none) = true then _ else _) _ _ s
  rw [if_neg (show ¬ ((Value.ref t == Value.none) = true) from Bool.false_ne_true)]
  show wpAny _ _ (field (.ref it) 1 >>= _) _ _ s
  refine wpAny_bind (wpAny_field ho hd (x := .int i 0) rfl ?_)
  show wpAny _ _ (seqItems? (.ref t) >>= _) _ _ s
  refine wpAny_bind (wpAny_seqItems hol hdl ?_);simp only [Zw, hx];refine wpAny_bind (wpAny_setField ho hd (by simp) (wpAny_pure ⟨x, rfl, wpAny_pure (hQ _ ?_ (Heap.SameBut.update ..))⟩))
  exact ⟨_, Heap.get?_update_self _ ho (Obj.isFreed_of_fields (Obj.data_mapFields hd _)), (Obj.cls_mapFields ..).trans hc, by
    rw [Obj.data_mapFields hd]; simp [rawInt]⟩
theorem gy {it t : Addr} {i : Nat} {items : Array Value} {Q : Value -> Shared -> Prop} (hh : A.handled = none)
    (hit : s.heap.IsTupleIter it t i) (ht : SeqH s.heap t items) (hx : items[i]? = none)
    (hE : ∀ h' e, Heap.ExtBut it s.heap h' -> (∃ o, h'.get? e = some o /\ o.cls = .type "StopIteration") -> E (.ref e) { s with heap := h' }) :
    wpAny (model prog w) A (Builtin.SmallTypes.nextOf (.ref it)) Q E s := by
  obtain ⟨o, ho, hc, hd⟩ := id hit;obtain ⟨ol, nl, hol, hdl⟩ := ht;unfold Builtin.SmallTypes.nextOf
  refine wpAny_bind (wpAny_callSpecial?_slot (name := Str.ofString "__next__") hit.typeIs F.slot_tuple_iterator_next
    (wpAny_call_entry F.slot_tuple_iterator_next hit.typeIs F.entry_tuple_iterator_next ?_ (F.args_tuple_iterator_next_1 _)))
  show wpAny _ _ (field (.ref it) 0 >>= _) _ _ s
  refine wpAny_bind (wpAny_field ho hd (x := .ref t) rfl ?_)
  show wpAny _ _ (if (Value.ref t == Value.none) = true then _ else _) _ _ s
  rw [if_neg (show ¬ ((Value.ref t == Value.none) = true) from Bool.false_ne_true)]
  show wpAny _ _ (field (.ref it) 1 >>= _) _ _ s
  refine wpAny_bind (wpAny_field ho hd (x := .int i 0) rfl ?_)
  show wpAny _ _ (seqItems? (.ref t) >>= _) _ _ s
  refine wpAny_bind (wpAny_seqItems hol hdl ?_);simp only [Zw, hx];refine wpAny_bind (wpAny_rule (wpAny_bind (wpAny_setField ho hd (by simp) ?_)))
  show wpAny _ _ (newExc (.type "StopIteration") [] >>= _) _ _ _
  refine wpAny_bind ?_;simp only [newExc, newTuple];refine wpAny_bind (wpAny_newObj_type ?_ (by size_fits));refine wpAny_bind (m := firstArgMember _ _) (wpAny_of_eq (a := Value.none) (by first | rfl | (simp only [firstArgMember]; rfl)) ?_);refine wpAny_newObj_type ?_ (by size_fits);simp only [raiseNew];refine wpAny_bind (wpAny_handled ?_)
  first | rw [show A.in1.handled = none from hh] | rw [hh]
  refine wpAny_bind (wpAny_pure (wpAny_throw ?_));exact hE _ _ (((Heap.SameBut.update ..).extBut.push _).push _) ⟨_, Heap.get?_push_size _ rfl, rfl⟩
theorem i6 {it t : Addr} {i : Nat} {items : Array Value} {x : Value} {Q : Value -> Shared -> Prop} (hit : s.heap.IsListIter it t i)
    (ht : SeqH s.heap t items) (hx : items[i]? = some x) (hQ : ∀ h', h'.IsListIter it t (i + 1) -> Heap.SameBut it s.heap h' -> Q x { s with heap := h' }) :
    wpAny (model prog w) A (Builtin.SmallTypes.nextOf (.ref it)) Q E s := by
  obtain ⟨o, ho, hc, hd⟩ := id hit;obtain ⟨ol, nl, hol, hdl⟩ := ht;unfold Builtin.SmallTypes.nextOf
  refine wpAny_bind (wpAny_callSpecial?_slot (name := Str.ofString "__next__") hit.typeIs slot_listiter_next
    (wpAny_call_entry slot_listiter_next hit.typeIs entry_listiter_next ?_ (args_listiter_next _)))
  show wpAny _ _ (field (.ref it) 0 >>= _) _ _ s
  refine wpAny_bind (wpAny_field ho hd (x := .ref t) rfl ?_)
  show wpAny _ _ (if (Value.ref t == Value.none) = true then _ else _) _ _ s
  rw [if_neg (show ¬ ((Value.ref t == Value.none) = true) from Bool.false_ne_true)]
  show wpAny _ _ (field (.ref it) 1 >>= _) _ _ s
  refine wpAny_bind (wpAny_field ho hd (x := .int i 0) rfl ?_)
  show wpAny _ _ (seqItems? (.ref t) >>= _) _ _ s
  refine wpAny_bind (wpAny_seqItems hol hdl ?_);simp only [Zw, hx];refine wpAny_bind (wpAny_setField ho hd (by simp) (wpAny_pure ⟨x, rfl, wpAny_pure (hQ _ ?_ (Heap.SameBut.update ..))⟩))
  exact ⟨_, Heap.get?_update_self _ ho (Obj.isFreed_of_fields (Obj.data_mapFields hd _)), (Obj.cls_mapFields ..).trans hc, by
    rw [Obj.data_mapFields hd]; simp [rawInt]⟩
theorem g9 {it t : Addr} {i : Nat} {items : Array Value} {Q : Value -> Shared -> Prop} (hh : A.handled = none)
    (hit : s.heap.IsListIter it t i) (ht : SeqH s.heap t items) (hx : items[i]? = none)
    (hE : ∀ h' e, Heap.ExtBut it s.heap h' -> (∃ o, h'.get? e = some o /\ o.cls = .type "StopIteration") -> E (.ref e) { s with heap := h' }) :
    wpAny (model prog w) A (Builtin.SmallTypes.nextOf (.ref it)) Q E s := by
  obtain ⟨o, ho, hc, hd⟩ := id hit;obtain ⟨ol, nl, hol, hdl⟩ := ht;unfold Builtin.SmallTypes.nextOf
  refine wpAny_bind (wpAny_callSpecial?_slot (name := Str.ofString "__next__") hit.typeIs slot_listiter_next
    (wpAny_call_entry slot_listiter_next hit.typeIs entry_listiter_next ?_ (args_listiter_next _)))
  show wpAny _ _ (field (.ref it) 0 >>= _) _ _ s
  refine wpAny_bind (wpAny_field ho hd (x := .ref t) rfl ?_)
  show wpAny _ _ (if (Value.ref t == Value.none) = true then _ else _) _ _ s
  rw [if_neg (show ¬ ((Value.ref t == Value.none) = true) from Bool.false_ne_true)]
  show wpAny _ _ (field (.ref it) 1 >>= _) _ _ s
  refine wpAny_bind (wpAny_field ho hd (x := .int i 0) rfl ?_)
  show wpAny _ _ (seqItems? (.ref t) >>= _) _ _ s
  refine wpAny_bind (wpAny_seqItems hol hdl ?_);simp only [Zw, hx];refine wpAny_bind (wpAny_rule (wpAny_bind (wpAny_setField ho hd (by simp) ?_)))
  show wpAny _ _ (newExc (.type "StopIteration") [] >>= _) _ _ _
  refine wpAny_bind ?_;simp only [newExc, newTuple];refine wpAny_bind (wpAny_newObj_type ?_ (by size_fits));refine wpAny_bind (m := firstArgMember _ _) (wpAny_of_eq (a := Value.none) (by first | rfl | (simp only [firstArgMember]; rfl)) ?_);refine wpAny_newObj_type ?_ (by size_fits);simp only [raiseNew];refine wpAny_bind (wpAny_handled ?_)
  first | rw [show A.in1.handled = none from hh] | rw [hh]
  refine wpAny_bind (wpAny_pure (wpAny_throw ?_));exact hE _ _ (((Heap.SameBut.update ..).extBut.push _).push _) ⟨_, Heap.get?_push_size _ rfl, rfl⟩
end
structure Drw where
  it : Addr
  l : Addr
  xs : Array Value
def DrAt (h : Heap) (d : Drw) (k : Nat) : Prop := (h.IsListIter d.it d.l k \/ h.IsTupleIter d.it d.l k) /\ SeqH h d.l d.xs
theorem DrAt.ext {h h' : Heap} {d : Drw} {k : Nat} (q : DrAt h d k) (h1 : ∀ o, h.get? d.it = some o -> h'.get? d.it = some o) (h2 : ∀ o, h.get? d.l = some o -> h'.get? d.l = some o) : DrAt h' d k := by
  obtain ⟨a, o', n, e', r'⟩ := q;refine ⟨?_, o', n, h2 o' e', r'⟩
  rcases a with ⟨o, e, r⟩ | ⟨o, e, r⟩
  . exact .inl ⟨o, h1 o e, r⟩
  . exact .inr ⟨o, h1 o e, r⟩
theorem DrAt.itAt {h : Heap} {d : Drw} {k : Nat} (q : DrAt h d k) : ∃ o, h.get? d.it = some o /\ o.data = .fields #[.ref d.l, .int k 0] := by
  rcases q.1 with ⟨o, e, c, r⟩ | ⟨o, e, c, r⟩ <;> exact ⟨o, e, r⟩
theorem DrAt.ne {h : Heap} {d : Drw} {k : Nat} (q : DrAt h d k) : d.l ≠ d.it := fun e => by
  obtain ⟨o, e1, r1⟩ := q.itAt;obtain ⟨o', n, e2, r2⟩ := q.2;rw [e, e1] at e2;cases e2;rw [r1] at r2;cases r2
section
variable {prog : Program} {w : World} {A : Around} {E : Value -> Shared -> Prop} {s : Shared}
theorem bw {d : Drw} {k : Nat} {x : Value} {Q : Value -> Shared -> Prop} (q : DrAt s.heap d k) (hx : d.xs[k]? = some x) (hQ : ∀ h', DrAt h' d (k + 1) -> Heap.SameBut d.it s.heap h' -> Q x { s with heap := h' }) :
    wpAny (model prog w) A (Builtin.SmallTypes.nextOf (.ref d.it)) Q E s := by
  have hne := q.ne;obtain ⟨a, b⟩ := q
  have keep : ∀ h', Heap.SameBut d.it s.heap h' -> SeqH h' d.l d.xs := fun h' hs => by
    obtain ⟨o', n, e', r'⟩ := b;exact ⟨o', n, hs.extBut _ _ hne e', r'⟩
  rcases a with a | a
  . exact i6 a b hx fun h' a' hs => hQ h' ⟨.inl a', keep h' hs⟩ hs
  . exact i4 a b hx fun h' a' hs => hQ h' ⟨.inr a', keep h' hs⟩ hs
theorem zhe {d : Drw} {k : Nat} {Q : Value -> Shared -> Prop} (hh : A.handled = none) (q : DrAt s.heap d k) (hx : d.xs[k]? = none)
    (hE : ∀ h' e, Heap.ExtBut d.it s.heap h' -> (∃ o, h'.get? e = some o /\ o.cls = .type "StopIteration") -> E (.ref e) { s with heap := h' }) :
    wpAny (model prog w) A (Builtin.SmallTypes.nextOf (.ref d.it)) Q E s := by
  obtain ⟨a, b⟩ := q
  rcases a with a | a
  . exact g9 hh a b hx hE
  . exact gy hh a b hx hE
abbrev yt (h : Heap) (T : Addr) (xs : List Value) : Prop := h.get? T = some { cls := .type "tuple", data := .seq xs.toArray }
structure j0 (z TI TO : Addr) (ds : List Drw) : Prop where
  TIz : TI ≠ z
  TOz : TO ≠ z
  TITO : TI ≠ TO
  iz : ∀ d ∈ ds, d.it ≠ z /\ d.it ≠ TI /\ d.it ≠ TO
  lz : ∀ d ∈ ds, d.l ≠ z /\ d.l ≠ TO
  ii : ∀ (i j : Nat) (d e : Drw), ds[i]? = some d -> ds[j]? = some e -> i ≠ j -> d.it ≠ e.it
  li : ∀ (d e : Drw), d ∈ ds -> e ∈ ds -> d.l ≠ e.it
structure ZSt (h0 h : Heap) (z TI TO : Addr) (ds : List Drw) (vs old : List Value) (k j : Nat) : Prop where
  zip : IsZip h z TI TO .ellipsis
  to : yt h TO (vs.take j ++ old.drop j)
  done : ∀ (i : Nat) (d : Drw), ds[i]? = some d -> i < j -> DrAt h d (k + 1)
  todo : ∀ (i : Nat) (d : Drw), ds[i]? = some d -> j <= i -> DrAt h d k
  keep : ∀ c o, c ≠ z -> c ≠ TO -> (∀ d ∈ ds, c ≠ d.it) -> h0.get? c = some o -> h.get? c = some o
  size : h.objs.size = h0.objs.size
theorem zbe {T : Addr} {xs : List Value} {x : Value} {k : Nat} {Q : Unit -> Shared -> Prop} (hT : yt s.heap T xs) (h8 : xs.length <= 8)
    (h : ∀ h', yt h' T (xs.set k x) -> Heap.SameBut T s.heap h' -> Q () { s with heap := h' }) : wpAny (model prog w) A (updateSeq T (·.setIfInBounds k x)) Q E s := by
  have z1 : xs.toArray.size <= sizeLine := by rw [Zr]; exact Zd h8 (by decide)
  have z2 : (xs.toArray.setIfInBounds k x).size <= sizeLine + 1 := by rw [Array.size_setIfInBounds]; omega
  refine wpAny_updateSeq (hz := z1) (_hz' := z2) hT rfl (h _ ?_ (Heap.SameBut.update ..))
  show (s.heap.update T _).get? T = _
  rw [Heap.get?_update_self _ hT rfl];simp [Obj.mapSeq]
theorem i7 {α : Type} {l : List α} {j i : Nat} {v : α} {rest : List (α × Nat)} (er : (v, i) :: rest = l.zipIdx.drop j) : l[j]? = some v /\ i = j /\ rest = l.zipIdx.drop (j + 1) := by
  have h0 : l.zipIdx[j]? = some (v, i) := by
    have : (l.zipIdx.drop j)[0]? = some (v, i) := by rw [<- er]; rfl
    rwa [Yu, Nat.add_zero] at this
  rw [List.getElem?_zipIdx] at h0;have ht : rest = (l.zipIdx.drop j).tail := by rw [<- er]; rfl
  cases e : l[j]? with
  | none => rw [e] at h0; cases h0
  | some u =>
    rw [e] at h0;simp at h0;exact ⟨by rw [h0.1], h0.2.symm, by rw [ht, List.tail_drop]⟩
theorem zhh {z TI TO : Addr} {ds : List Drw} {vs old : List Value} {k : Nat} {Q : Value -> Shared -> Prop} (D : j0 z TI TO ds) (hn : ds ≠ []) (hz : IsZip s.heap z TI TO .none) (hTI : yt s.heap TI (ds.map fun d => .ref d.it)) (hTO : yt s.heap TO old)
    (lv : vs.length = ds.length) (lo : old.length = ds.length) (h8 : ds.length <= 8) (hd : ∀ d ∈ ds, DrAt s.heap d k) (hv : ∀ (i : Nat) (d : Drw), ds[i]? = some d -> d.xs[k]? = vs[i]?)
    (hQ : ∀ h', IsZip h' z TI TO (rawInt s.heap.objs.size) -> yt h' TO vs -> (∀ d ∈ ds, DrAt h' d (k + 1)) -> yt h' s.heap.objs.size vs -> h'.objs.size = s.heap.objs.size + 1 ->
      (∀ c o, c ≠ z -> c ≠ TO -> (∀ d ∈ ds, c ≠ d.it) -> s.heap.get? c = some o -> h'.get? c = some o) -> Q (.ref s.heap.objs.size) { s with heap := h' }) :
    wpAny (model prog w) A (Builtin.«zip.__next__» ⟨[.ref z], []⟩) (fun fin s' => ∃ v, fin = .done (.ret v) /\ Q v s') E s := by
  show wpAny _ _ (field (.ref z) 2 >>= _) _ _ _
  refine wpAny_bind (wpAny_field hz rfl (x := .bool false) rfl ?_)
  show wpAny _ _ (field (.ref z) 3 >>= _) _ _ _
  refine wpAny_bind (wpAny_field hz rfl (x := .ref TI) rfl ?_);refine wpAny_bind (wpAny_seqItems hTI rfl ?_)
  have hne : ¬ (((ds.map fun d => Value.ref d.it).toArray).isEmpty = true) := by
    simp;exact hn
  show wpAny _ _ (if ((ds.map fun d => Value.ref d.it).toArray.isEmpty = true) then _ else _) _ _ _
  rw [if_neg hne]
  show wpAny _ _ (Builtin.SmallTypes.ownedTupleIsFree (.ref z) >>= _) _ _ _
  refine wpAny_bind ?_;unfold Builtin.SmallTypes.ownedTupleIsFree;refine wpAny_bind (wpAny_field hz rfl (x := .none) rfl (wpAny_pure ?_));simp only [if_true];refine wpAny_bind (wpAny_rule ?_);refine wpAny_bind (wpAny_field hz rfl (x := .ref TO) rfl ?_);refine wpAny_bind (wpAny_setField_rec hz (by simp) fun h₁ hz₁ hs₁ => ?_)
  replace hz₁ : IsZip h₁ z TI TO .ellipsis := hz₁
  refine wpAny_bind ?_
  have st0 : ZSt s.heap h₁ z TI TO ds vs old k 0 := ⟨hz₁, by
    rw [List.take_zero, List.nil_append, List.drop_zero]
    exact hs₁.extBut _ _ D.TOz hTO, fun i d _ h => absurd h (YH _), fun i d e _ => (hd d (Zi e)).ext (fun o q => hs₁.extBut _ _ (D.iz d (Zi e)).1 q) (fun o q => hs₁.extBut _ _ (D.lz d (Zi e)).1 q), fun c o c1 _ _ q => hs₁.extBut _ _ c1 q, hs₁.1⟩
  refine wpAny_forIn_list _ (fun rest b s' => b = (none, ()) /\ ∃ j h, s' = { s with heap := h } /\ j <= ds.length /\ rest = ((ds.map fun d => Value.ref d.it).zipIdx).drop j /\ ZSt s.heap h z TI TO ds vs old k j) _ ?turn ?fin _ _ ⟨rfl, 0, h₁, rfl, ZE _, rfl, st0⟩
  case turn =>
    rintro ⟨v, i⟩ rest b s' ⟨rfl, j, h, rfl, hj, er, st⟩
    obtain ⟨ev, rfl, er2⟩ := i7 er;rw [Ze] at ev
    cases ed : ds[i]? with
    | none => rw [ed] at ev; cases ev
    | some d =>
    rw [ed] at ev;cases ev;have hil := (Zc.mp ed).1;have hm := Zi ed;have ex := hv i d ed;obtain ⟨x, evx⟩ : ∃ x, vs[i]? = some x := ⟨vs[i]'(by omega), Zb _⟩;rw [evx] at ex;refine wpAny_bind (wpAny_onRaise ?_)
    show wpAny _ _ (Builtin.SmallTypes.nextOf (.ref d.it) >>= _) _ _ _
    refine wpAny_bind (bw (s := { s with heap := h }) (st.todo i d ed (Zm _)) ex fun h₂ hd₂ hs₂ => wpAny_pure ?_)
    replace hs₂ : Heap.SameBut d.it h h₂ := hs₂
    have hTO₂ : yt h₂ TO (vs.take i ++ old.drop i) := hs₂.extBut _ _ (Ne.symm (D.iz d hm).2.2) st.to;refine wpAny_bind (wpAny_seqItems (s := { s with heap := h₂ }) hTO₂ rfl ?_);refine wpAny_bind (zbe (s := { s with heap := h₂ }) hTO₂ (by rw [Zo, Zj, ZP]; omega) fun h₃ hTO₃ hs₃ => ?_)
    replace hs₃ : Heap.SameBut TO h₂ h₃ := hs₃
    refine wpAny_bind (wpAny_letGo (wpAny_pure ?_));have up : ∀ c o, c ≠ d.it -> c ≠ TO -> h.get? c = some o -> h₃.get? c = some o := fun c o c1 c2 e => hs₃.extBut _ _ c2 (hs₂.extBut _ _ c1 e)
    refine ⟨rfl, i + 1, h₃, rfl, hil, er2, ⟨up _ _ (Ne.symm (D.iz d hm).1) (Ne.symm D.TOz) st.zip, ?_, fun m e em hmi => ?_, fun m e em hmi => ?_, fun c o c1 c2 c3 e => up c o (c3 d hm) c2 (st.keep c o c1 c2 c3 e), ?_⟩⟩
    . have : (vs.take i ++ old.drop i).set i x = vs.take (i + 1) ++ old.drop (i + 1) := by
        have lt : (vs.take i).length = i := by rw [Zj]; omega
        have eo : old.drop i = old[i]'(by omega) :: old.drop (i + 1) := List.drop_eq_getElem_cons (by omega);rw [eo, List.set_append_right _ _ (by omega), lt, Nat.sub_self, List.set_cons_zero, Zq, evx];simp
      rw [this] at hTO₃;exact hTO₃
    . have hme := Zi em
      by_cases hmi' : m = i
      . subst hmi'
        rw [ed] at em;cases em;exact hd₂.ext (fun o q => hs₃.extBut _ _ (D.iz d hm).2.2 q) (fun o q => hs₃.extBut _ _ (D.lz d hm).2 q)
      . exact (st.done m e em (by omega)).ext (fun o q => up _ _ (D.ii m i e d em ed hmi') (D.iz e hme).2.2 q) (fun o q => up _ _ (D.li e d hme hm) (D.lz e hme).2 q)
    . have hme := Zi em
      exact (st.todo m e em (by omega)).ext (fun o q => up _ _ (D.ii m i e d em ed (by omega)) (D.iz e hme).2.2 q) (fun o q => up _ _ (D.li e d hme hm) (D.lz e hme).2 q)
    . rw [hs₃.1, hs₂.1, st.size]
  case fin =>
    rintro b s' ⟨rfl, j, h, rfl, hj, er, st⟩
    have hjl : j = ds.length := by
      have := congrArg List.length er;rw [ZP, List.length_zipIdx, Za, ZZ] at this;omega
    subst hjl
    have hTO₅ : yt h TO vs := by
      have := st.to
      rwa [<- lv, Zt, List.drop_of_length_le (by omega), Ye] at this
    refine wpAny_bind (wpAny_seqItems (s := { s with heap := h }) hTO₅ rfl ?_);have hzl : vs.length <= sizeLine := Zd (show vs.length <= 8 by omega) (by decide);refine wpAny_bind (wpAny_newTuple (s := { s with heap := h }) ?_ (by simpa using hzl));have hsz := st.size;have hzlt : z < h.objs.size := Heap.lt_size st.zip
    show wpAny _ _ (Builtin.SmallTypes.ownedTupleHandOut (.ref z) (.ref h.objs.size) >>= _) _ _ _
    refine wpAny_bind ?_;unfold Builtin.SmallTypes.ownedTupleHandOut;have hz₆ : IsZip (h.push { cls := .type "tuple", data := .seq vs.toArray }) z TI TO .ellipsis := Heap.get?_push_of_some _ st.zip;refine wpAny_bind (wpAny_setField_rec (s := { s with heap := h.push { cls := .type "tuple", data := .seq vs.toArray } }) hz₆ (by simp) fun h₇ hz₇ hs₇ => ?_)
    replace hz₇ : IsZip h₇ z TI TO (rawInt h.objs.size) := hz₇
    replace hs₇ : Heap.SameBut z (h.push { cls := .type "tuple", data := .seq vs.toArray }) h₇ := hs₇
    refine wpAny_setField_rec (s := { s with heap := h₇ }) hz₇ (by simp) fun h₈ hz₈ hs₈ => ?_
    replace hz₈ : IsZip h₈ z TI TO (rawInt h.objs.size) := hz₈
    replace hs₈ : Heap.SameBut z h₇ h₈ := hs₈
    have up : ∀ c o, c ≠ z -> h.get? c = some o -> h₈.get? c = some o := fun c o c1 e => hs₈.extBut _ _ c1 (hs₇.extBut _ _ c1 (Heap.get?_push_of_some _ e))
    have hT₈ : yt h₈ h.objs.size vs := hs₈.extBut _ _ (ZR hzlt) (hs₇.extBut _ _ (ZR hzlt) (Heap.get?_push_size _ rfl));have hz8 : h₈.objs.size = h.objs.size + 1 := by rw [hs₈.1, hs₇.1, Heap.size_push]
    rw [hsz] at hz₈ hT₈ hz8;refine wpAny_pure ⟨_, rfl, ?_⟩
    show Q (.ref h.objs.size) _
    rw [hsz];refine hQ h₈ hz₈ (up _ _ D.TOz hTO₅) (fun d hm => ?_) hT₈ hz8 fun c o c1 c2 c3 e => up c o c1 (st.keep c o c1 c2 c3 e)
    obtain ⟨m, hml, em⟩ := Zy hm;have em' : ds[m]? = some d := by rw [<- em]; exact Zb hml
    exact (st.done m d em' hml).ext (fun o q => up _ _ (D.iz d hm).1 q) (fun o q => up _ _ (D.lz d hm).1 q)
structure ZSe (h0 h : Heap) (z TI TO : Addr) (ds : List Drw) (k j : Nat) : Prop where
  zip : IsZip h z TI TO .ellipsis
  to : ∃ ts, yt h TO ts /\ ts.length = ds.length
  more : ∀ (i : Nat) (d : Drw), ds[i]? = some d -> i < j -> d.xs[k]? ≠ none
  todo : ∀ (i : Nat) (d : Drw), ds[i]? = some d -> j <= i -> DrAt h d k
  keep : ∀ c o, c ≠ z -> c ≠ TO -> (∀ d ∈ ds, c ≠ d.it) -> h0.get? c = some o -> h.get? c = some o
theorem zia {z TI TO : Addr} {ds : List Drw} {old : List Value} {k : Nat} {Q : Fin -> Shared -> Prop} (hh : A.handled = none) (D : j0 z TI TO ds) (hn : ds ≠ []) (hz : IsZip s.heap z TI TO .none) (hTI : yt s.heap TI (ds.map fun d => .ref d.it)) (hTO : yt s.heap TO old)
    (lo : old.length = ds.length) (h8 : ds.length <= 8) (hd : ∀ d ∈ ds, DrAt s.heap d k) (hend : ∃ d ∈ ds, d.xs[k]? = none)
    (hE : ∀ h' e, (∀ c o, c ≠ z -> c ≠ TO -> (∀ d ∈ ds, c ≠ d.it) -> s.heap.get? c = some o -> h'.get? c = some o) -> (∃ o, h'.get? e = some o /\ o.cls = .type "StopIteration") -> E (.ref e) { s with heap := h' }) :
    wpAny (model prog w) A (Builtin.«zip.__next__» ⟨[.ref z], []⟩) Q E s := by
  show wpAny _ _ (field (.ref z) 2 >>= _) _ _ _
  refine wpAny_bind (wpAny_field hz rfl (x := .bool false) rfl ?_)
  show wpAny _ _ (field (.ref z) 3 >>= _) _ _ _
  refine wpAny_bind (wpAny_field hz rfl (x := .ref TI) rfl ?_);refine wpAny_bind (wpAny_seqItems hTI rfl ?_)
  have hne : ¬ (((ds.map fun d => Value.ref d.it).toArray).isEmpty = true) := by
    simp;exact hn
  show wpAny _ _ (if ((ds.map fun d => Value.ref d.it).toArray.isEmpty = true) then _ else _) _ _ _
  rw [if_neg hne]
  show wpAny _ _ (Builtin.SmallTypes.ownedTupleIsFree (.ref z) >>= _) _ _ _
  refine wpAny_bind ?_;unfold Builtin.SmallTypes.ownedTupleIsFree;refine wpAny_bind (wpAny_field hz rfl (x := .none) rfl (wpAny_pure ?_));simp only [if_true];refine wpAny_bind (wpAny_rule ?_);refine wpAny_bind (wpAny_field hz rfl (x := .ref TO) rfl ?_);refine wpAny_bind (wpAny_setField_rec hz (by simp) fun h₁ hz₁ hs₁ => ?_)
  replace hz₁ : IsZip h₁ z TI TO .ellipsis := hz₁
  refine wpAny_bind ?_;have st0 : ZSe s.heap h₁ z TI TO ds k 0 := ⟨hz₁, ⟨old, hs₁.extBut _ _ D.TOz hTO, lo⟩, fun i d _ h => absurd h (YH _), fun i d e _ => (hd d (Zi e)).ext (fun o q => hs₁.extBut _ _ (D.iz d (Zi e)).1 q) (fun o q => hs₁.extBut _ _ (D.lz d (Zi e)).1 q), fun c o c1 _ _ q => hs₁.extBut _ _ c1 q⟩;refine wpAny_forIn_list _ (fun rest b s' => b = (none, ()) /\ ∃ j h, s' = { s with heap := h } /\ j <= ds.length /\ rest = ((ds.map fun d => Value.ref d.it).zipIdx).drop j /\ ZSe s.heap h z TI TO ds k j) _ ?turn ?fin _ _ ⟨rfl, 0, h₁, rfl, ZE _, rfl, st0⟩
  case turn =>
    rintro ⟨v, i⟩ rest b s' ⟨rfl, j, h, rfl, hj, er, st⟩
    obtain ⟨ev, rfl, er2⟩ := i7 er;rw [Ze] at ev
    cases ed : ds[i]? with
    | none => rw [ed] at ev; cases ev
    | some d =>
    rw [ed] at ev;cases ev;have hil := (Zc.mp ed).1;have hm := Zi ed;refine wpAny_bind (wpAny_onRaise ?_)
    show wpAny _ _ (Builtin.SmallTypes.nextOf (.ref d.it) >>= _) _ _ _
    cases ex : d.xs[k]? with
    | none =>
      refine wpAny_bind (zhe (s := { s with heap := h }) hh (st.todo i d ed (Zm _)) ex fun h₂ e hs₂ he => ?_);obtain ⟨oe, hoe, hce⟩ := he;have hz₂ : IsZip h₂ z TI TO .ellipsis := hs₂ _ _ (Ne.symm (D.iz d hm).1) st.zip;have hez : e ≠ z := fun x => by subst x; rw [hz₂] at hoe; cases hoe; simp at hce
      exact wpAny_setField_rec (s := { s with heap := h₂ }) hz₂ (by simp) fun h₃ _ hs₃ => hE h₃ e (fun c o c1 c2 c3 x => hs₃.extBut _ _ c1 (hs₂ _ _ (c3 d hm) (st.keep c o c1 c2 c3 x))) ⟨oe, hs₃.extBut _ _ hez hoe, hce⟩
    | some x =>
      refine wpAny_bind (bw (s := { s with heap := h }) (st.todo i d ed (Zm _)) ex fun h₂ hd₂ hs₂ => wpAny_pure ?_)
      replace hs₂ : Heap.SameBut d.it h h₂ := hs₂
      obtain ⟨ts, hts, lts⟩ := st.to;have hTO₂ : yt h₂ TO ts := hs₂.extBut _ _ (Ne.symm (D.iz d hm).2.2) hts;refine wpAny_bind (wpAny_seqItems (s := { s with heap := h₂ }) hTO₂ rfl ?_);refine wpAny_bind (zbe (s := { s with heap := h₂ }) hTO₂ (by omega) fun h₃ hTO₃ hs₃ => ?_)
      replace hs₃ : Heap.SameBut TO h₂ h₃ := hs₃
      refine wpAny_bind (wpAny_letGo (wpAny_pure ?_));have up : ∀ c o, c ≠ d.it -> c ≠ TO -> h.get? c = some o -> h₃.get? c = some o := fun c o c1 c2 e => hs₃.extBut _ _ c2 (hs₂.extBut _ _ c1 e)
      refine ⟨rfl, i + 1, h₃, rfl, hil, er2, ⟨up _ _ (Ne.symm (D.iz d hm).1) (Ne.symm D.TOz) st.zip, ⟨_, hTO₃, by rw [List.length_set]; exact lts⟩, fun m e em hmi => ?_, fun m e em hmi => ?_, fun c o c1 c2 c3 e => up c o (c3 d hm) c2 (st.keep c o c1 c2 c3 e)⟩⟩
      . by_cases hmi' : m = i
        . subst hmi'
          rw [ed] at em;cases em;rw [ex];simp
        . exact st.more m e em (by omega)
      . have hme := Zi em
        exact (st.todo m e em (by omega)).ext (fun o q => up _ _ (D.ii m i e d em ed (by omega)) (D.iz e hme).2.2 q) (fun o q => up _ _ (D.li e d hme hm) (D.lz e hme).2 q)
  case fin =>
    rintro b s' ⟨rfl, j, h, rfl, hj, er, st⟩
    exfalso
    have hjl : j = ds.length := by
      have := congrArg List.length er;rw [ZP, List.length_zipIdx, Za, ZZ] at this;omega
    subst hjl;obtain ⟨d, hm, e⟩ := hend;obtain ⟨m, hml, em⟩ := Zy hm;exact st.more m d (by rw [<- em]; exact Zb hml) hml e
theorem gp {z TI TO : Addr} {ds : List Drw} {vs old : List Value} {k : Nat} {Q : Option Value -> Shared -> Prop} (D : j0 z TI TO ds) (hn : ds ≠ []) (hz : IsZip s.heap z TI TO .none) (hTI : yt s.heap TI (ds.map fun d => .ref d.it)) (hTO : yt s.heap TO old)
    (lv : vs.length = ds.length) (lo : old.length = ds.length) (h8 : ds.length <= 8) (hd : ∀ d ∈ ds, DrAt s.heap d k) (hv : ∀ (i : Nat) (d : Drw), ds[i]? = some d -> d.xs[k]? = vs[i]?)
    (hQ : ∀ h', IsZip h' z TI TO (rawInt s.heap.objs.size) -> yt h' TO vs -> (∀ d ∈ ds, DrAt h' d (k + 1)) -> yt h' s.heap.objs.size vs -> h'.objs.size = s.heap.objs.size + 1 ->
      (∀ c o, c ≠ z -> c ≠ TO -> (∀ d ∈ ds, c ≠ d.it) -> s.heap.get? c = some o -> h'.get? c = some o) -> Q (some (.ref s.heap.objs.size)) { s with heap := h' }) :
    wpAny (model prog w) A (pyNext (.ref z)) Q E s := by
  have hT : s.TypeIs (.ref z) "zip" := ⟨_, hz, rfl⟩;unfold pyNext
  exact wpAny_bind (wpAny_attempt (wpAny_callSpecial?_slot (name := Str.ofString "__next__") hT F.slot_zip_next
    (wpAny_call_entry F.slot_zip_next hT F.entry_zip_next
      (zhh D hn hz hTI hTO lv lo h8 hd hv fun h' a1 a2 a3 a4 a5 a6 => wpAny_pure (hQ h' a1 a2 a3 a4 a5 a6)) (F.args_zip_next_1 _))))
theorem fm {z TI TO : Addr} {ds : List Drw} {old : List Value} {k : Nat} {Q : Option Value -> Shared -> Prop} (hh : A.handled = none) (D : j0 z TI TO ds) (hn : ds ≠ []) (hz : IsZip s.heap z TI TO .none) (hTI : yt s.heap TI (ds.map fun d => .ref d.it)) (hTO : yt s.heap TO old)
    (lo : old.length = ds.length) (h8 : ds.length <= 8) (hd : ∀ d ∈ ds, DrAt s.heap d k) (hend : ∃ d ∈ ds, d.xs[k]? = none)
    (hQ : ∀ h', (∀ c o, c ≠ z -> c ≠ TO -> (∀ d ∈ ds, c ≠ d.it) -> s.heap.get? c = some o -> h'.get? c = some o) -> Q none { s with heap := h' }) : wpAny (model prog w) A (pyNext (.ref z)) Q E s := by
  have hT : s.TypeIs (.ref z) "zip" := ⟨_, hz, rfl⟩;unfold pyNext
  refine wpAny_bind (wpAny_attempt (wpAny_callSpecial?_slot (name := Str.ofString "__next__") hT F.slot_zip_next
    (wpAny_call_entry F.slot_zip_next hT F.entry_zip_next (zia hh D hn hz hTI hTO lo h8 hd hend fun h' e hk he => ?_) (F.args_zip_next_1 _))))
  obtain ⟨o, ho, hc⟩ := he;refine wpAny_bind (wpAny_isInstance (T := "StopIteration") (b := true) ⟨o, ho, hc⟩ isSubtype_stop ?_);exact wpAny_pure (hQ _ hk)
end
def SrcAt (h : Heap) (b : Bool) (l : Addr) (xs : Array Value) : Prop := if b = true then h.IsList l xs else h.IsTuple l xs
def xf (b : Bool) (l : Addr) : Obj := { cls := .type (if b = true then "list_iterator" else "tuple_iterator"), data := .fields #[.ref l, .int 0 0] }
theorem SrcAt.push {h : Heap} {b : Bool} {l : Addr} {xs : Array Value} (q : SrcAt h b l xs) (o : Obj) : SrcAt (h.push o) b l xs := by
  cases b
  . obtain ⟨p, e, r⟩ := (show h.IsTuple l xs from q)
    exact ⟨p, Heap.get?_push_of_some _ e, r⟩
  . obtain ⟨p, e, r⟩ := (show h.IsList l xs from q)
    exact ⟨p, Heap.get?_push_of_some _ e, r⟩
theorem kw {prog : Program} {w : World} {A : Around} {E : Value -> Shared -> Prop} {s : Shared} {b : Bool} {l : Addr} {xs : Array Value} {Q : Value -> Shared -> Prop} (q : SrcAt s.heap b l xs) (hQ : Q (.ref s.heap.objs.size) { s with heap := s.heap.push (xf b l) }) :
    wpAny (model prog w) A (pyIter (.ref l)) Q E s := by
  cases b
  . exact wpAny_pyIter_tuple (show s.heap.IsTuple l xs from q) hQ
  . exact wpAny_pyIter_list (show s.heap.IsList l xs from q) hQ
theorem zef (b1 b2 b3 : Bool) (l1 l2 l3 : Addr) (x1 x2 x3 : Array Value) :
    Meets (Builtin.«zip.__new__» ⟨[.type "zip", .ref l1, .ref l2, .ref l3], []⟩) (fun _ R s => SrcAt s.heap b1 l1 x1 /\ SrcAt s.heap b2 l2 x2 /\ SrcAt s.heap b3 l3 x3 /\
      ∀ h', h' = (((((s.heap.push (xf b1 l1)).push (xf b2 l2)).push (xf b3 l3)).push { cls := .type "tuple", data := .seq #[.ref s.heap.objs.size, .ref (s.heap.push (xf b1 l1)).objs.size, .ref ((s.heap.push (xf b1 l1)).push (xf b2 l2)).objs.size] }).push { cls := .type "tuple", data := .seq #[.none, .none, .none] }) ->
      R (.ok (.ret (.ref h'.objs.size))) { s with heap := h'.push { cls := .type "zip", data := .fields #[.none, .bool false, .bool false, .ref (((s.heap.push (xf b1 l1)).push (xf b2 l2)).push (xf b3 l3)).objs.size, .ref ((((s.heap.push (xf b1 l1)).push (xf b2 l2)).push (xf b3 l3)).push { cls := .type "tuple", data := .seq #[.ref s.heap.objs.size, .ref (s.heap.push (xf b1 l1)).objs.size, .ref ((s.heap.push (xf b1 l1)).push (xf b2 l2)).objs.size] }).objs.size] } }) :=
  .of_wp fun prog w A R s h => by
    obtain ⟨hp, g, d, tk, os⟩ := s; obtain ⟨hl1, hl2, hl3, h⟩ := h;have hsub := sub_zip;have hL1 : SrcAt (Shared.heap ⟨hp, g, d, tk, os⟩) b1 l1 x1 := hl1;have hL2 : SrcAt (Shared.heap ⟨hp.push (xf b1 l1), g, d, tk, os⟩) b2 l2 x2 := SrcAt.push hl2 _;have hL3 : SrcAt (Shared.heap ⟨(hp.push (xf b1 l1)).push (xf b2 l2), g, d, tk, os⟩) b3 l3 x3 := SrcAt.push (SrcAt.push hl3 _) _
    wp_walk using kw hL1, kw hL2, kw hL3
    exact ⟨_, rfl, h _ rfl⟩
theorem cn (a b c : Value) : checkTypeCall "zip" ⟨[a, b, c], []⟩ = pure () := by kernel_rfl
theorem ai (a b c : Value) : checkBuiltinCall "zip.__new__" ⟨[.type "zip", a, b, c], []⟩ = pure () := by kernel_rfl
theorem ib (a b c d : Value) : argsOk "object.__init__" ⟨[a, b, c, d], []⟩ := by
  unfold argsOk; rw [signature?_of (id := "object.__init__") (n := ['_', '_', 't', 'i', 'n', 'i', '_', '_']) (o := ['t', 'c', 'e', 'j', 'b', 'o']) (by kernel_rfl) F.owner_object]; kernel_rfl
theorem DrAt.start {h : Heap} {b : Bool} {n l : Addr} {xs : Array Value} (e : h.get? n = some (xf b l)) (q : SrcAt h b l xs) : DrAt h ⟨n, l, xs⟩ 0 := by
  cases b
  . obtain ⟨o, e', c, n, r⟩ := (show h.IsTuple l xs from q)
    exact ⟨.inr ⟨_, e, rfl, rfl⟩, o, n, e', r⟩
  . obtain ⟨o, e', c, n, r⟩ := (show h.IsList l xs from q)
    exact ⟨.inl ⟨_, e, rfl, rfl⟩, o, n, e', r⟩
theorem SrcAt.keeps {h h' : Heap} {b : Bool} {l : Addr} {xs : Array Value} (q : SrcAt h b l xs) (k : ∀ c o, h.get? c = some o -> h'.get? c = some o) : SrcAt h' b l xs := by
  cases b
  . obtain ⟨p, e, r⟩ := (show h.IsTuple l xs from q)
    exact ⟨p, k _ _ e, r⟩
  . obtain ⟨p, e, r⟩ := (show h.IsList l xs from q)
    exact ⟨p, k _ _ e, r⟩
section
variable {prog : Program} {w : World} {A : Around} {E : Value -> Shared -> Prop} {s : Shared}
theorem zgk {b1 b2 b3 : Bool} {l1 l2 l3 : Addr} {x1 x2 x3 : Array Value} {Q : Value -> Shared -> Prop} (hl1 : SrcAt s.heap b1 l1 x1) (hl2 : SrcAt s.heap b2 l2 x2) (hl3 : SrcAt s.heap b3 l3 x3)
    (h : ∀ h', IsZip h' (s.heap.objs.size + 5) (s.heap.objs.size + 3) (s.heap.objs.size + 4) .none -> yt h' (s.heap.objs.size + 3) [.ref s.heap.objs.size, .ref (s.heap.objs.size + 1), .ref (s.heap.objs.size + 2)] ->
      yt h' (s.heap.objs.size + 4) [.none, .none, .none] -> DrAt h' ⟨s.heap.objs.size, l1, x1⟩ 0 -> DrAt h' ⟨s.heap.objs.size + 1, l2, x2⟩ 0 -> DrAt h' ⟨s.heap.objs.size + 2, l3, x3⟩ 0 ->
      (∀ c o, s.heap.get? c = some o -> h'.get? c = some o) -> Q (.ref (s.heap.objs.size + 5)) { s with heap := h' }) :
    wpAny (model prog w) A (call (.type "zip") [.ref l1, .ref l2, .ref l3]) Q E s := by
  refine callType_new F.called_zip (by decide) (cn _ _ _) (ai _ _ _) (fun obj => ib obj _ _ _) F.entry_zip_new
    (zef b1 b2 b3 l1 l2 l3 x1 x2 x3) ⟨hl1, hl2, hl3, ?_⟩
  intro h0 e0;generalize e1 : s.heap.push (xf b1 l1) = h1 at *;have z1 : h1.objs.size = s.heap.objs.size + 1 := by rw [<- e1]; exact Heap.size_push ..
  generalize e2 : h1.push (xf b2 l2) = h2 at *;have z2 : h2.objs.size = s.heap.objs.size + 2 := by rw [<- e2, Heap.size_push, z1]
  generalize e3 : h2.push (xf b3 l3) = h3 at *;have z3 : h3.objs.size = s.heap.objs.size + 3 := by rw [<- e3, Heap.size_push, z2]
  rw [z1, z2] at e0;rw [z1, z2, z3];generalize e4 : h3.push { cls := .type "tuple", data := .seq #[.ref s.heap.objs.size, .ref (s.heap.objs.size + 1), .ref (s.heap.objs.size + 2)] } = h4 at *;have z4 : h4.objs.size = s.heap.objs.size + 4 := by rw [<- e4, Heap.size_push, z3]
  have z5 : h0.objs.size = s.heap.objs.size + 5 := by rw [e0, Heap.size_push, z4]
  rw [z4, z5];have k1 : ∀ c o, s.heap.get? c = some o -> h1.get? c = some o := fun c o q => by rw [<- e1]; exact Heap.get?_push_of_some _ q
  have k2 : ∀ c o, h1.get? c = some o -> h2.get? c = some o := fun c o q => by rw [<- e2]; exact Heap.get?_push_of_some _ q
  have k3 : ∀ c o, h2.get? c = some o -> h3.get? c = some o := fun c o q => by rw [<- e3]; exact Heap.get?_push_of_some _ q
  have k4 : ∀ c o, h3.get? c = some o -> h4.get? c = some o := fun c o q => by rw [<- e4]; exact Heap.get?_push_of_some _ q
  have k5 : ∀ c o, h4.get? c = some o -> h0.get? c = some o := fun c o q => by rw [e0]; exact Heap.get?_push_of_some _ q
  have g1 : h1.get? s.heap.objs.size = some (xf b1 l1) := by rw [<- e1]; exact Heap.get?_push_size _ rfl
  have g2 : h2.get? (s.heap.objs.size + 1) = some (xf b2 l2) := by rw [<- e2, <- z1]; exact Heap.get?_push_size _ rfl
  have g3 : h3.get? (s.heap.objs.size + 2) = some (xf b3 l3) := by rw [<- e3, <- z2]; exact Heap.get?_push_size _ rfl
  have g4 : h4.get? (s.heap.objs.size + 3) = some { cls := .type "tuple", data := .seq #[.ref s.heap.objs.size, .ref (s.heap.objs.size + 1), .ref (s.heap.objs.size + 2)] } := by rw [<- e4, <- z3]; exact Heap.get?_push_size _ rfl
  have g5 : h0.get? (s.heap.objs.size + 4) = some { cls := .type "tuple", data := .seq #[.none, .none, .none] } := by rw [e0, <- z4]; exact Heap.get?_push_size _ rfl
  generalize ezo : ({ cls := .type "zip", data := .fields #[.none, .bool false, .bool false, .ref (s.heap.objs.size + 3), .ref (s.heap.objs.size + 4)] } : Obj) = zo at *;have k6 : ∀ c o, h0.get? c = some o -> (h0.push zo).get? c = some o := fun c o q => Heap.get?_push_of_some _ q
  have g6 : (h0.push zo).get? (s.heap.objs.size + 5) = some zo := by rw [<- z5]; exact Heap.get?_push_size _ (by rw [<- ezo]; rfl)
  have kk : ∀ c o, s.heap.get? c = some o -> (h0.push zo).get? c = some o := fun c o q => k6 _ _ (k5 _ _ (k4 _ _ (k3 _ _ (k2 _ _ (k1 _ _ q)))))
  show _ /\ _
  have g7 : IsZip (h0.push zo) (s.heap.objs.size + 5) (s.heap.objs.size + 3) (s.heap.objs.size + 4) .none := by
    show (h0.push zo).get? _ = _
    rw [g6, <- ezo]
  refine ⟨⟨_, g7, rfl⟩, h _ g7 (k6 _ _ (k5 _ _ g4)) (k6 _ _ g5) ?_ ?_ ?_ kk⟩
  . exact DrAt.start (b := b1) (k6 _ _ (k5 _ _ (k4 _ _ (k3 _ _ (k2 _ _ g1))))) (hl1.keeps kk)
  . exact DrAt.start (b := b2) (k6 _ _ (k5 _ _ (k4 _ _ (k3 _ _ g2)))) (hl2.keeps kk)
  . exact DrAt.start (b := b3) (k6 _ _ (k5 _ _ (k4 _ _ g3))) (hl3.keeps kk)
end
end L2
namespace L2
open PySem PySem.Spec PyProof.Rows
def SqA (K : Fg) (H : Hp) (a : Addr) (xs : List V) : Prop := SqL K H a xs \/ SqT K H a xs
structure uq (K : Fg) (H : Hp) (as : List Addr) (xss : List (List V)) : Prop where
  len : as.length = xss.length
  at' : ∀ (j : Nat) (a : Addr) (xs : List V), as[j]? = some a -> xss[j]? = some xs -> SqA K H a xs
def ItN (K : Fg) (as : List Addr) : It :=
  ⟨fun i H => ∃ xss, uq K H as xss /\ ∀ xs ∈ xss, i < xs.length,
   fun i H v H' => ∃ T vs, v = .ref T /\ H T = none /\ H' = upd H T (.tup vs) /\ ∀ xss, uq K H as xss -> vs.length = xss.length /\ ∀ (j : Nat) (xs : List V), xss[j]? = some xs -> xs[i]? = vs[j]?,
   fun i H => ∃ xss, uq K H as xss /\ ∃ xs ∈ xss, xs.length <= i⟩
def zff (z TI TO : Addr) (its ls : List Addr) (i : Nat) (h : Heap) : Prop :=
  IsZip h z TI TO .none /\ yt h TI (its.map fun a => .ref a) /\ (∃ old, yt h TO old /\ old.length = its.length) /\ ∀ (j : Nat) (it l : Addr), its[j]? = some it -> ls[j]? = some l -> h.IsListIter it l i \/ h.IsTupleIter it l i
structure zai (z TI TO : Addr) (its : List Addr) : Prop where
  TIz : TI ≠ z
  TOz : TO ≠ z
  TITO : TI ≠ TO
  iz : ∀ it ∈ its, it ≠ z /\ it ≠ TI /\ it ≠ TO
  nd : its.Nodup
section
variable {X : Cx} {pins : List (Addr × Obj)} {σ : St} {H : Hp} {s : Shared}
theorem Inv.sqA (I : Inv X pins σ H s) {a : Addr} {xs : List V} (q : SqA X.K H a xs) : ∃ us : List Value, Vals xs us /\ SeqH s.heap a us.toArray := by
  rcases q with q | q
  . obtain ⟨us, r, pl, _⟩ := I.list q
    obtain ⟨o, e, c, n, d⟩ := pl.isList;exact ⟨us, r, o, n, e, d⟩
  . obtain ⟨us, r, ⟨o, e, c, n, d⟩, _⟩ := I.tuple q
    exact ⟨us, r, o, n, e, d⟩
theorem Inv.sqA_inj (I : Inv X pins σ H s) {a : Addr} {xs ys : List V} (q : SqA X.K H a xs) (q' : SqA X.K H a ys) : xs = ys := by
  obtain ⟨us, r, o, n, e, d⟩ := I.sqA q;obtain ⟨us', r', o', n', e', d'⟩ := I.sqA q';rw [e] at e';cases e';rw [d] at d'
  injection d' with d1 _
  have : us = us' := by simpa using congrArg Array.toList d1
  subst this;exact r.inj r'
theorem Inv.sqA_ne (I : Inv X pins σ H s) {a b : Addr} {xs : List V} (q : SqA X.K H a xs) (f : FpOk X pins H b) : a ≠ b := by
  rintro rfl
  have hk : ∀ o, X.K.lookup a = some o -> False := fun o hk => by
    have e : X.base.get? a = some o := I.ok.mod.kin a o hk
    rcases f.2.2.2.1 with z | z
    . exact I.ok.noex _ _ e z
    . exact absurd (Heap.lt_size (I.ok.bs a o e).1) (ZD.mpr z)
  rcases q with ((q | ⟨o, q⟩) | ⟨o, its, n, q, _⟩) | ((q | ⟨o, q⟩) | ⟨o, its, n, q, _⟩)
  . rw [f.1] at q; cases q
  . rw [f.1] at q; cases q
  . exact hk o q
  . rw [f.1] at q; cases q
  . rw [f.1] at q; cases q
  . exact hk o q
def mkDs : List Addr -> List Addr -> List (List Value) -> List Drw
  | it :: its, l :: ls, u :: us => ⟨it, l, u.toArray⟩ :: mkDs its ls us
  | _, _, _ => []
theorem vm : ∀ {its ls : List Addr} {us : List (List Value)}, its.length = ls.length -> ls.length = us.length -> ∀ (j : Nat) (d : Drw), (mkDs its ls us)[j]? = some d ↔ ∃ it l u, its[j]? = some it /\ ls[j]? = some l /\ us[j]? = some u /\ d = ⟨it, l, u.toArray⟩
  | [], [], [], _, _, j, d => by simp [mkDs]
  | it :: its, l :: ls, u :: us, h1, h2, 0, d => by
    simp only [mkDs, List.getElem?_cons_zero, Option.some.injEq]
    constructor
    . intro e; exact ⟨it, l, u, rfl, rfl, rfl, e.symm⟩
    . rintro ⟨a, b, c, rfl, rfl, rfl, e⟩; exact e.symm
  | it :: its, l :: ls, u :: us, h1, h2, j + 1, d => by
    simp only [mkDs, Yw];exact vm (by simpa using h1) (by simpa using h2) j d
theorem gq : ∀ {its ls : List Addr} {us : List (List Value)}, its.length = ls.length -> ls.length = us.length -> (mkDs its ls us).length = its.length
  | [], [], [], _, _ => rfl
  | it :: its, l :: ls, u :: us, h1, h2 => by
    simp only [mkDs, ZL];rw [gq (by simpa using h1) (by simpa using h2)]
theorem gu : ∀ {its ls : List Addr} {us : List (List Value)}, its.length = ls.length -> ls.length = us.length -> (mkDs its ls us).map (fun d => Value.ref d.it) = its.map fun a => Value.ref a
  | [], [], [], _, _ => rfl
  | it :: its, l :: ls, u :: us, h1, h2 => by
    simp only [mkDs, ZM];rw [gu (by simpa using h1) (by simpa using h2)]
theorem kj (I : Inv X pins σ H s) : ∀ {as : List Addr} {xss : List (List V)}, uq X.K H as xss -> ∃ uss : List (List Value), as.length = uss.length /\ ∀ (j : Nat) (a : Addr) (xs : List V) (us : List Value), as[j]? = some a -> xss[j]? = some xs -> uss[j]? = some us -> Vals xs us /\ SeqH s.heap a us.toArray
  | [], [], _ => ⟨[], rfl, fun j a xs us e => by simp at e⟩
  | a :: as, xs :: xss, q => by
    obtain ⟨us, r, sq⟩ := I.sqA (q.at' 0 a xs rfl rfl);obtain ⟨uss, l, f⟩ := kj I (as := as) (xss := xss) ⟨by simpa using q.len, fun j b ys e1 e2 => q.at' (j + 1) b ys (by simpa using e1) (by simpa using e2)⟩;refine ⟨us :: uss, by simp [l], fun j b ys vs e1 e2 e3 => ?_⟩
    cases j with
    | zero =>
      simp at e1 e2 e3;subst e1 e2 e3;exact ⟨r, sq⟩
    | succ j => exact f j b ys vs (by simpa using e1) (by simpa using e2) (by simpa using e3)
  | [], xs :: xss, q => by simpa using q.len
  | a :: as, [], q => by simpa using q.len
theorem zf2 (I : Inv X pins σ H s) {as : List Addr} {xss yss : List (List V)} (q : uq X.K H as xss) (q' : uq X.K H as yss) : xss = yss := by
  refine List.ext_getElem? fun j => ?_
  cases e1 : xss[j]? with
  | none =>
    have := List.getElem?_eq_none_iff.mp e1;exact (YC (by rw [<- q'.len, q.len]; exact this)).symm
  | some xs =>
    have hj := (Zc.mp e1).1;have hj1 : j < as.length := by rw [q.len]; exact hj
    have hj2 : j < yss.length := by rw [<- q'.len]; exact hj1
    rw [Zb hj2, I.sqA_inj (q.at' j _ xs (Zb hj1) e1) (q'.at' j _ _ (Zb hj1) (Zb hj2))]
theorem f9 (I : Inv X pins σ H s) {z TI TO : Addr} {its ls : List Addr} (D : zai z TI TO its) (hl : its.length = ls.length) {i : Nat} (hf : ∀ b ∈ z :: TI :: TO :: its, FpOk X pins H b) (st : zff z TI TO its ls i s.heap) {xss : List (List V)} (q : uq X.K H ls xss)
    {uss : List (List Value)} (lu : ls.length = uss.length) (hu : ∀ (j : Nat) (a : Addr) (xs : List V) (us : List Value), ls[j]? = some a -> xss[j]? = some xs -> uss[j]? = some us -> Vals xs us /\ SeqH s.heap a us.toArray) :
    j0 z TI TO (mkDs its ls uss) /\ ∀ d ∈ mkDs its ls uss, DrAt s.heap d i := by
  have get : ∀ d ∈ mkDs its ls uss, ∃ (j : Nat) (it l : Addr) (u : List Value) (xs : List V), its[j]? = some it /\ ls[j]? = some l /\ uss[j]? = some u /\ xss[j]? = some xs /\ d = ⟨it, l, u.toArray⟩ := fun d hd => by
    obtain ⟨j, hj, e⟩ := Zy hd;obtain ⟨it, l, u, e1, e2, e3, e4⟩ := (vm hl lu j d).mp (by rw [<- e]; exact Zb hj);have hjx : j < xss.length := by rw [<- q.len]; exact (Zc.mp e2).1
    exact ⟨j, it, l, u, _, e1, e2, e3, Zb hjx, e4⟩
  have at0 : ∀ d ∈ mkDs its ls uss, DrAt s.heap d i := fun d hd => by
    obtain ⟨j, it, l, u, xs, e1, e2, e3, e4, rfl⟩ := get d hd;exact ⟨st.2.2.2 j it l e1 e2, (hu j l xs u e2 e4 e3).2⟩
  have sq : ∀ d ∈ mkDs its ls uss, ∃ xs, SqA X.K H d.l xs := fun d hd => by
    obtain ⟨j, it, l, u, xs, e1, e2, e3, e4, rfl⟩ := get d hd;exact ⟨xs, q.at' j l xs e2 e4⟩
  have itm : ∀ d ∈ mkDs its ls uss, d.it ∈ its := fun d hd => by
    obtain ⟨j, it, l, u, xs, e1, e2, e3, e4, rfl⟩ := get d hd;exact Zi e1
  refine ⟨⟨D.TIz, D.TOz, D.TITO, fun d hd => D.iz _ (itm d hd), fun d hd => ?_, fun j k d e ej ek hjk => ?_, fun d e hd he => ?_⟩, at0⟩
  . obtain ⟨xs, q1⟩ := sq d hd
    exact ⟨I.sqA_ne q1 (hf z (by simp)), I.sqA_ne q1 (hf TO (by simp))⟩
  . obtain ⟨it, l, u, a1, _, _, rfl⟩ := (vm hl lu j d).mp ej
    obtain ⟨it', l', u', a1', _, _, rfl⟩ := (vm hl lu k e).mp ek;intro heq;have heq' : it = it' := heq;subst heq';obtain ⟨h1, g1⟩ := Zc.mp a1;obtain ⟨h2, g2⟩ := Zc.mp a1';exact hjk ((Yy D.nd).mp (g1.trans g2.symm))
  . obtain ⟨xs, q1⟩ := sq d hd
    exact I.sqA_ne q1 (hf e.it (by simp [itm e he]))
end
theorem ze0 {P : Program} {w : World} {K : Fg} {elts : List Expr} {x1 : Nat} {pos : Pos} (z TI TO : Addr) (its ls : List Addr) (D : zai z TI TO its) (hl : its.length = ls.length) (hn : its ≠ []) (h8 : its.length <= 8) :
    Turn P w K (.Tuple elts x1 pos) (ItN K ls) (z :: TI :: TO :: its) z (zff z TI TO its ls) where
  mem := by simp
  obj := fun i h st b hb => by
    obtain ⟨hz, hTI, ⟨old, hTO, _⟩, hi⟩ := st;simp only [ZK] at hb
    rcases hb with rfl | rfl | rfl | hb
    . exact ⟨_, hz, fun v q => by cases q⟩
    . exact ⟨_, hTI, fun v q => by cases q⟩
    . exact ⟨_, hTO, fun v q => by cases q⟩
    . obtain ⟨j, hj, e⟩ := Zy hb
      have hj2 : j < ls.length := by rw [<- hl]; exact hj
      rcases hi j b _ (by rw [<- e]; exact Zb hj) (Zb hj2) with ⟨o, e1, _, d1⟩ | ⟨o, e1, _, d1⟩
      . exact ⟨o, e1, fun v q => by rw [d1] at q; cases q⟩
      . exact ⟨o, e1, fun v q => by rw [d1] at q; cases q⟩
  keep := fun i h h' st k => by
    obtain ⟨hz, hTI, ⟨old, hTO, lo⟩, hi⟩ := st;refine ⟨k z (by simp) _ hz, k TI (by simp) _ hTI, ⟨old, k TO (by simp) _ hTO, lo⟩, fun j it l e1 e2 => ?_⟩;have hm : it ∈ z :: TI :: TO :: its := by simp [Zi e1]
    rcases hi j it l e1 e2 with ⟨o, a, r⟩ | ⟨o, a, r⟩
    . exact .inl ⟨o, k it hm o a, r⟩
    . exact .inr ⟨o, k it hm o a, r⟩
  item := by
    intro X hP hw hK hc i pins s σ H E I hf st hg;subst hP hw hK;obtain ⟨xss, q, hlen⟩ := hg;obtain ⟨uss, lu, hu⟩ := kj I q;obtain ⟨A, at0⟩ := f9 I D hl hf st q lu hu;obtain ⟨hz, hTI, ⟨old, hTO, lo⟩, hi⟩ := id st;have dl := gq hl lu
    -- the values of this turn
    have hvs : ∃ (vs : List V) (ws : List Value), Vals vs ws /\ vs.length = xss.length /\ ws.length = xss.length /\ (∀ (j : Nat) (xs : List V), xss[j]? = some xs -> xs[i]? = vs[j]?) /\ ∀ (j : Nat) (us : List Value), uss[j]? = some us -> us[i]? = ws[j]? := by
      have go : ∀ (ys : List (List V)) (us : List (List Value)), ys.length = us.length -> (∀ xs ∈ ys, i < xs.length) -> (∀ (j : Nat) (xs : List V) (u : List Value), ys[j]? = some xs -> us[j]? = some u -> Vals xs u) ->
          ∃ (vs : List V) (ws : List Value), Vals vs ws /\ vs.length = ys.length /\ ws.length = ys.length /\ (∀ (j : Nat) (xs : List V), ys[j]? = some xs -> xs[i]? = vs[j]?) /\ ∀ (j : Nat) (u : List Value), us[j]? = some u -> u[i]? = ws[j]? := by
        intro ys
        induction ys with
        | nil =>
          intro us hl _ _
          cases us with
          | nil => exact ⟨[], [], .nil, rfl, rfl, fun j xs e => by simp at e, fun j xs e => by simp at e⟩
          | cons _ _ => simp at hl
        | cons y ys ih =>
          intro us hl h1 h2
          cases us with
          | nil => simp at hl
          | cons u us =>
            obtain ⟨vs, ws, r, l1, l2, g1, g2⟩ := ih us (by simpa using hl) (fun xs hx => h1 xs (Zv _ hx)) fun j xs v e1 e2 => h2 (j + 1) xs v (by simpa using e1) (by simpa using e2)
            have hy : i < y.length := h1 y ZA;have r0 := h2 0 y u rfl rfl;obtain ⟨x, hx, rx⟩ := r0.get (Zb hy);refine ⟨y[i] :: vs, x :: ws, .cons rx r, by simp [l1], by simp [l2], fun j xs e => ?_, fun j v e => ?_⟩
            . cases j with
              | zero =>
                simp at e;subst e;simp [hy]
              | succ j => simpa using g1 j xs (by simpa using e)
            . cases j with
              | zero =>
                simp at e;subst e
                simpa using hx
              | succ j => simpa using g2 j v (by simpa using e)
      refine go xss uss (by rw [<- q.len, lu]) hlen fun j xs u e1 e2 => ?_
      have hj : j < ls.length := by rw [lu]; exact (Zc.mp e2).1
      exact (hu j _ xs u (Zb hj) e1 e2).1
    obtain ⟨vs, ws, rvs, lv, lw, gv, gw⟩ := hvs;refine gp (vs := ws) (old := old) A (fun e => hn (by have := congrArg List.length e; rw [dl] at this; exact Yi.mp this)) hz (by rw [gu hl lu]; exact hTI) hTO (by rw [lw, dl, hl, q.len]) (by rw [lo, dl]) (by rw [dl]; exact h8) at0 (fun j d ed => ?_) fun h' a1 a2 a3 a4 a5 hk => ?_
    . obtain ⟨it, l, u, e1, e2, e3, rfl⟩ := (vm hl lu j d).mp ed
      show u.toArray[i]? = _
      rw [List.getElem?_toArray];exact gw j u e3
    have ltT : ∀ {c o}, s.heap.get? c = some o -> c ≠ s.heap.objs.size := fun e => Zs (Heap.lt_size e)
    refine ⟨_, rfl, wpAny_letOwnedTupleGo_zip (s := { s with heap := h' }) a1 fun h'' b1 sb => ?_⟩;have hTz : s.heap.objs.size ≠ z := Ne.symm (ltT hz)
    have itz : ∀ d ∈ mkDs its ls uss, d.it ∈ its := fun d hd => by
      obtain ⟨j, hj, e⟩ := Zy hd;obtain ⟨it, l, u, e1, _, _, e4⟩ := (vm hl lu j d).mp (by rw [<- e]; exact Zb hj);rw [e4];exact Zi e1
    have kk : ∀ c o, c ∉ z :: TO :: its -> s.heap.get? c = some o -> h''.get? c = some o := fun c o hc e => by
      simp only [ZK, not_or] at hc;exact sb.extBut c o hc.1 (hk c o hc.1 hc.2.1 (fun d hd z => hc.2.2 (z ▸ itz d hd)) e)
    have hf4 : ∀ b ∈ z :: TO :: its, FpOk X pins H b := fun b hb => hf b (by
      simp only [ZK] at hb ⊢
      rcases hb with h | h | h
      . exact .inl h
      . exact .inr (.inr (.inl h))
      . exact .inr (.inr (.inr h)))
    have hvl : vs.length <= sizeLine := Zd (show vs.length <= 8 by rw [lv, <- q.len, <- hl]; exact h8) (by decide)
    have I1 : Inv X pins σ (upd H s.heap.objs.size (.tup vs)) { s with heap := h'', toks := s.toks } := I.turnedLaid (ch := z :: TO :: its) hf4 (fun b o hb e => kk b o hb e) (Zm _) ⟨hvl, ws, rvs, by
        have e := sb.extBut _ _ hTz a4
        exact ⟨_, e, rfl, _, rfl, rfl⟩⟩
    refine ⟨.ref s.heap.objs.size, _, I1, rfl, ⟨s.heap.objs.size, vs, rfl, I.hok.fresh (Zm _), rfl, fun yss q' => ?_⟩, ?_, fun b hb => ?_⟩
    . rw [zf2 I q' q]
      exact ⟨lv, gv⟩
    . refine ⟨b1, sb.extBut _ _ D.TIz (hk _ _ D.TIz D.TITO (fun d hd => Ne.symm (A.iz d hd).2.1) hTI), ⟨ws, sb.extBut _ _ D.TOz a2, by rw [lw, <- q.len, hl]⟩, fun j it l e1 e2 => ?_⟩
      have hj3 : j < uss.length := by rw [<- lu]; exact (Zc.mp e2).1
      have hm : (⟨it, l, (uss[j]).toArray⟩ : Drw) ∈ mkDs its ls uss := Zi ((vm hl lu j _).mpr ⟨it, l, _, e1, e2, Zb hj3, rfl⟩);have hne : it ≠ z := (A.iz _ hm).1
      rcases (a3 _ hm).1 with ⟨o, a, r⟩ | ⟨o, a, r⟩
      . exact .inl ⟨o, sb.extBut _ _ hne a, r⟩
      . exact .inr ⟨o, sb.extBut _ _ hne a, r⟩
    . have hb' := (hf b hb).1
      rw [zr ?_]
      . exact hb'
      . simp only [ZK] at hb
        rcases hb with rfl | rfl | rfl | hb
        . exact ltT hz
        . exact ltT hTI
        . exact ltT hTO
        . obtain ⟨j, hj, e⟩ := Zy hb
          have hj2 : j < ls.length := by rw [<- hl]; exact hj
          rcases hi j b _ (by rw [<- e]; exact Zb hj) (Zb hj2) with ⟨o, e1, _⟩ | ⟨o, e1, _⟩ <;> exact ltT e1
  done := by
    intro X hP hw hK hc i pins s σ H E I hf st hg;subst hP hw hK;obtain ⟨xss, q, xs, hxm, hle⟩ := hg;obtain ⟨uss, lu, hu⟩ := kj I q;obtain ⟨A, at0⟩ := f9 I D hl hf st q lu hu;obtain ⟨hz, hTI, ⟨old, hTO, lo⟩, hi⟩ := id st;have dl := gq hl lu
    have itz : ∀ d ∈ mkDs its ls uss, d.it ∈ its := fun d hd => by
      obtain ⟨j, hj, e⟩ := Zy hd;obtain ⟨it, l, u, e1, _, _, e4⟩ := (vm hl lu j d).mp (by rw [<- e]; exact Zb hj);rw [e4];exact Zi e1
    refine fm (old := old) (I.ok.hd hc) A (fun e => hn (by have := congrArg List.length e; rw [dl] at this; exact Yi.mp this)) hz (by rw [gu hl lu]; exact hTI) hTO (by rw [lo, dl]) (by rw [dl]; exact h8) at0 ?_ fun h' hk => ⟨rfl, ?_⟩
    . obtain ⟨j, hj, e⟩ := Zy hxm
      have ex : xss[j]? = some xs := by rw [<- e]; exact Zb hj
      have hj1 : j < ls.length := by rw [q.len]; exact hj
      have hj2 : j < its.length := by rw [hl]; exact hj1
      have hj3 : j < uss.length := by rw [<- lu]; exact hj1
      refine ⟨⟨its[j], ls[j], (uss[j]).toArray⟩, Zi ((vm hl lu j _).mpr ⟨_, _, _, Zb hj2, Zb hj1, Zb hj3, rfl⟩), ?_⟩;have r := (hu j _ xs _ (Zb hj1) ex (Zb hj3)).1;have rl := r.length
      show (uss[j]).toArray[i]? = none
      rw [List.getElem?_toArray];exact YC (by omega)
    have nch : ∀ b u, H b = some u -> b ∉ z :: TO :: its := fun b u e q => by
      have := (hf b (by
        simp only [ZK] at q ⊢
        rcases q with h | h | h
        . exact .inl h
        . exact .inr (.inr (.inl h))
        . exact .inr (.inr (.inr h)))).1
      rw [this] at e; cases e
    have k : ∀ b o, b ∉ z :: TO :: its -> s.heap.get? b = some o -> h'.get? b = some o := fun b o hb e => by
      simp only [ZK, not_or] at hb;exact hk b o hb.1 hb.2.1 (fun d hd z => hb.2.2 (z ▸ itz d hd)) e
    have hf4 : ∀ b ∈ z :: TO :: its, FpOk X pins H b := fun b hb => hf b (by
      simp only [ZK] at hb ⊢
      rcases hb with h | h | h
      . exact .inl h
      . exact .inr (.inr (.inl h))
      . exact .inr (.inr (.inr h)))
    exact I.step (g' := s.gens) (d' := s.drawn) (t' := s.toks) (ch := z :: TO :: its) (fun b hb => by
        obtain ⟨f0, f1, f2, f3, f4, f5⟩ := hf4 b hb
        exact ⟨f3, f1, f4, f5⟩) (fun b o _ _ hc e _ => k b o hc e) (fun b o _ _ hc e _ => ⟨o.slots, k b o hc e⟩) (fun b o _ e n => n)
      (fun b o hc e => ⟨o, k b o hc e⟩) (fun b xs e => e) (fun b ob u e => e) (fun b ps e => ⟨#[], by rw [e]; simp⟩) (fun m hm => by
        obtain ⟨ob, es, ep, ho, r⟩ := hm
        exact ⟨ob, es, ep, k _ ob (fun q => (hf4 _ q).2.1 rfl) ho, r⟩) (fun b u e => (I.hok b u e).stay (fun c v hc q => k c v (by
          rcases hc with r | r
          . rw [r]; exact nch b u e
          . exact nch c _ r) q) (fun _ q => q) fun _ _ q => q) I.bare
  self := fun _ _ _ _ _ st h => wpAny_pyIter_zip st.1 h
theorem Inv.src {X : Cx} {pins : List (Addr × Obj)} {σ : St} {H : Hp} {s : Shared} (I : Inv X pins σ H s) {a : Addr} {xs : List V} (q : SqA X.K H a xs) : ∃ b us, SrcAt s.heap b a us := by
  rcases q with q | q
  . obtain ⟨us, r, pl, _⟩ := I.list q
    exact ⟨true, _, pl.isList⟩
  . obtain ⟨us, r, pl, _⟩ := I.tuple q
    exact ⟨false, _, pl⟩
def iZip3 (K : Fg) (ta : TA) : TI := fun σ H R => ta σ H fun vs H1 => ∃ a b c, vs = [.ref a, .ref b, .ref c] /\ (∃ xss, uq K H1 [a, b, c] xss) /\ R (ItN K [a, b, c]) H1
def iZip2 (K : Fg) (ta : TA) : TI := fun σ H R => ta σ H fun vs H1 => ∃ a b, vs = [.ref a, .ref b] /\ (∃ xss, uq K H1 [a, b] xss) /\ R (ItN K [a, b]) H1
theorem e_zip3 {K : Fg} {ta : TA} {σ : St} {H : Hp} {R : It -> Hp -> Prop} : iZip3 K ta σ H R = ta σ H fun vs H1 => ∃ a b c, vs = [.ref a, .ref b, .ref c] /\ (∃ xss, uq K H1 [a, b, c] xss) /\ R (ItN K [a, b, c]) H1 := rfl
theorem e_zip2 {K : Fg} {ta : TA} {σ : St} {H : Hp} {R : It -> Hp -> Prop} : iZip2 K ta σ H R = ta σ H fun vs H1 => ∃ a b, vs = [.ref a, .ref b] /\ (∃ xss, uq K H1 [a, b] xss) /\ R (ItN K [a, b]) H1 := rfl
theorem Vals.three {x y z : V} {us : List Value} (r : Vals [x, y, z] us) : ∃ u v w, us = [u, v, w] /\ RelV x u /\ RelV y v /\ RelV z w := by
  cases r with
  | cons r1 r => cases r with
    | cons r2 r => cases r with
      | cons r3 r =>
        cases r;exact ⟨_, _, _, rfl, r1, r2, r3⟩
theorem zja {X : Cx} {a b c : Expr} {ta : TA} {p pos tpos : Pos} {elts : List Expr} {x1 : Nat} (hg : Gl X "zip") (hm : X.mg "zip" = none) (ha : PA X [a, b, c] ta)
    (hs : starEach [a, b, c] X.env = (false, eval a X.env) :: starEach [b, c] X.env := by rfl) (hs2 : (backTo pos (starEach [b, c] X.env)).any (·.1) = false := by rfl) :
    PI X (.Tuple elts x1 tpos) (.Call (.Name "zip" p) [a, b, c] [] pos) (iZip3 X.K ta) := by
  intro pins s σ H R I h;refine Call_ (ui I hg hm zgn (PyProof.Rows.callWith_type1 (thn (ha pos pins s σ H _ I h) fun us s1 ⟨vs, H1, I1, r1, q1⟩ => ?_) hs hs2));obtain ⟨a, b, c, e, ⟨xss, qa⟩, q⟩ := q1;subst e;obtain ⟨u, v, y, rfl, ru, rv, ry⟩ := Vals.three r1;cases ru; cases rv; cases ry
  match xss, qa with
  | [xa, xb, xc], qa =>
  obtain ⟨k1, y1, s1'⟩ := I1.src (qa.at' 0 a xa rfl rfl);obtain ⟨k2, y2, s2'⟩ := I1.src (qa.at' 1 b xb rfl rfl);obtain ⟨k3, y3, s3'⟩ := I1.src (qa.at' 2 c xc rfl rfl);refine zgk s1' s2' s3' fun h' z1 z2 z3 z4 z5 z6 kp => ?_
  refine wpAny_pyIter_zip (s := { s1 with heap := h' }) z1 ?_;have I2 : Inv X pins σ H1 { s1 with heap := h' } := I1.kept (t' := s1.toks) kp
  have D : zai (s1.heap.objs.size + 5) (s1.heap.objs.size + 3) (s1.heap.objs.size + 4) [s1.heap.objs.size, s1.heap.objs.size + 1, s1.heap.objs.size + 2] := by
    refine ⟨(by show (_ : Nat) ≠ _; omega), (by show (_ : Nat) ≠ _; omega), (by show (_ : Nat) ≠ _; omega), fun it hi => ?_, ?_⟩
    . simp only [ZK, Zx, or_false] at hi
      rcases hi with rfl | rfl | rfl <;> refine ⟨?_, ?_, ?_⟩ <;> (show (_ : Nat) ≠ _; omega)
    . simp
  refine ⟨s1.heap.objs.size + 5, (s1.heap.objs.size + 5) :: (s1.heap.objs.size + 3) :: (s1.heap.objs.size + 4) :: [s1.heap.objs.size, s1.heap.objs.size + 1, s1.heap.objs.size + 2], _, _, H1, rfl, I2, ze0 _ _ _ [s1.heap.objs.size, s1.heap.objs.size + 1, s1.heap.objs.size + 2] [a, b, c] D rfl (by simp) (by simp), ⟨z1, z2, ⟨_, z3, rfl⟩, fun j it l e1 e2 => ?_⟩, fun e he => ?_, q⟩
  . match j with
    | 0 => simp at e1 e2; subst e1 e2; exact z4.1
    | 1 => simp at e1 e2; subst e1 e2; exact z5.1
    | 2 => simp at e1 e2; subst e1 e2; exact z6.1
    | j + 3 => simp at e1
  have hle : s1.heap.objs.size <= e := by
    simp only [ZK, Zx, or_false] at he
    rcases he with h | h | h | h | h | h <;> (rw [h]; omega)
  exact I1.fpOk hle (I1.hok.fresh hle)
section
variable {σ : St} {k : Nat} {g : TG} {tt : TT} {te : TE} {H1 : Hp} {Fin : List V -> Hp -> Prop}
theorem zf4 {K : Fg} {as : List Addr} {xss : List (List V)} {n : Nat} (Pv : Nat -> List V -> Hp -> Prop) (h0 : Pv 0 [] H1) (hn : ∀ xs ∈ xss, n <= xs.length) (he : ∃ xs ∈ xss, xs.length = n) (hz : ∀ i ys H, i <= n -> Pv i ys H -> ys.length <= sizeLine /\ uq K H as xss)
    (hs : ∀ i vs ys H T, i < n -> vs.length = xss.length -> (∀ (j : Nat) (xs : List V), xss[j]? = some xs -> xs[i]? = vs[j]?) -> H T = none -> Pv i ys H -> g (.ref T) (List.replicate k none ++ σ) (upd H T (.tup vs)) fun σ2 H2 => σ2.drop k = σ /\ tt σ2 H2 fun b H3 => if b = true then te σ2 H3 fun v H4 => Pv (i + 1) (ys ++ [v]) H4 else Pv (i + 1) ys H3)
    (hd : ∀ ys H, Pv n ys H -> Fin ys H) : sy (ItN K as) σ k g tt te H1 Fin := by
  refine ⟨fun i m ys H => m = n - i /\ i <= n /\ Pv i ys H, ⟨n, by simp, ZE _, h0⟩, ?_⟩
  rintro i m ys H ⟨rfl, hi, p⟩
  obtain ⟨q0, qa⟩ := hz i ys H hi p;refine ⟨q0, ?_⟩
  by_cases hlt : i < n
  . refine .inr ⟨⟨xss, qa, fun xs hx => Zh hlt (hn xs hx)⟩, Pv (i + 1), fun ys' H' p' => ⟨n - (i + 1), by omega, rfl, hlt, p'⟩, fun x H' y => ?_⟩
    obtain ⟨T, vs, rfl, hT, rfl, hy⟩ := y;obtain ⟨l, f⟩ := hy xss qa;exact hs i vs ys _ T hlt l f hT p
  . have e : i = n := by omega
    subst e;obtain ⟨xs, hx, el⟩ := he;exact .inl ⟨⟨xss, qa, xs, hx, by omega⟩, hd ys H p⟩
end
end L2
namespace L2
open PySem PySem.Spec PyProof.Rows
theorem cx : entryFor table "dict.update.loop" = some Builtin.«dict.update.loop» := entryFor_of_tree (by kernel_rfl)
theorem mt : plainId "dict.update.loop" = true := by decide +kernel
theorem cu : typeLookup (.type "list") "keys" = pure none := by rw [typeLookup_type, builtinLookup_eq_fast]; kernel_rfl
theorem jo {prog : Program} {w : World} {A : Around} {E : Value -> Shared -> Prop} {s : Shared} {a : Addr} {o : Obj} {xs : Array Value} {k : Nat} {Q : Option Value -> Shared -> Prop}
    (hx : s.heap.get? a = some o) (hc : o.cls = .type "list") (hdat : o.data = .seq xs k) (hd : o.dict = none) (hA : A.handled = none)
    (h : ∀ h' tk, (∀ b o, s.heap.get? b = some o -> h'.get? b = some o) -> Q none { s with heap := h', toks := tk }) :
    wpAny (model prog w) A (getAttr? (.ref a) "keys") Q E s := by
  obtain ⟨c, dct, dat, sl⟩ := o;simp only at hc hdat hd;subst hc hdat hd;obtain ⟨hp, g, d, tk, os⟩ := s;have hT : ∀ tk', (⟨hp, g, d, tk', os⟩ : Shared).TypeIs (.ref a) "list" := fun _ => ⟨_, hx, rfl⟩
  have f1 := sub_AttributeError;have f3 := F.slot_list_getattribute.lookup;have f4 := F.slot_list_getattribute.bind (.ref a);have f5 := am_list_getattr_none;unfold getAttr? getAttrBy? getAttrBy
  repeat (any_goals (first | assumption | exact hT _ | ((with_reducible show wpAny _ _ (call (Value.builtin "list.__getattribute__") _ _) _ _ _); refine call_meets F.slot_list_getattribute (hT _) am_entry_list_getattribute (F.args_list_getattribute_2 _ _) (meets_getattribute_miss_list a xs k sl "keys" _ cu (by decide) (by decide)) ⟨hx, hA, fun h' tk' e hx' => ?_⟩) | wp_step))
  obtain ⟨t', u', he⟩ := hx'.there
  show wpAny _ _ (getattributeRaised _ _ _ _ _ _ _) _ _ _
  unfold getattributeRaised
  repeat (any_goals (first | assumption | wp_step))
  exact h _ _ hx'.keeps
section
variable {prog : Program} {w : World} {K : Type} [DecidableEq K] {knd : KeyKind prog w K}
def accH (ps : List (List K × Addr × Value)) (i : Nat) : List (List K × Addr × Value) := (ps.take i).foldl (fun xs p => storedH xs p.1 p.2.1 p.2.2) []
theorem zb0 {G : List K -> Addr -> Prop} {xs : List (List K × Addr × Value)} {k : List K} {b : Addr} {v : Value} (h : ∀ x ∈ xs, G x.1 x.2.1) (hk : G k b) : ∀ x ∈ storedH xs k b v, G x.1 x.2.1 := by
  unfold storedH
  split
  . intro x hx
    obtain ⟨y, hy, rfl⟩ := Zp.mp hx;unfold putAt
    split
    . exact h y hy
    . exact h y hy
  . intro x hx
    rcases ZH.mp hx with hx | hx
    . exact h x hx
    . rw [ZC.mp hx]; exact hk
theorem jy {ps : List (List K × Addr × Value)} {i : Nat} {p : List K × Addr × Value} (h : ps[i]? = some p) : accH ps (i + 1) = storedH (accH ps i) p.1 p.2.1 p.2.2 := by
  unfold accH;rw [Zq, h];simp
theorem zb1 (xs : List (List K × Addr × Value)) (k : List K) (b : Addr) (v : Value) : (storedH xs k b v).length <= xs.length + 1 := by
  unfold storedH
  split
  . rw [Za]; omega
  . rw [Zo]; simp
theorem zac (ps : List (List K × Addr × Value)) : ∀ i, i <= ps.length -> (accH ps i).length <= i
  | 0, _ => Zm _
  | i + 1, h => by
    have e : ps[i]? = some ps[i] := Zb h;rw [jy e];exact Zd (zb1 _ _ _ _) (YA (zac ps i (by omega)))
structure d9 (knd : KeyKind prog w K) (h : Heap) (items : Array Value) (ps : List (List K × Addr × Value)) : Prop where
  len : items.size = ps.length
  at' : ∀ (i : Nat) (p : List K × Addr × Value), ps[i]? = some p -> ∃ T, items[i]? = some (.ref T) /\ h.IsTuple T #[.ref p.2.1, p.2.2] /\ (tupleKind knd).is h p.1 p.2.1
theorem isK {h h' : Heap} {ks : List K} {a : Addr} (q : (tupleKind knd).is h ks a) (k : ∀ o, h.get? a = some o -> h'.get? a = some o) : (tupleKind knd).is h' ks a := by
  obtain ⟨o, its, n, e, r⟩ := q;exact ⟨o, its, n, k o e, r⟩
theorem jf {h h' : Heap} {d : Addr} {xs : List (List K × Addr × Value)} (q : h.DictOfH (tupleKind knd) d xs) (hd : ∀ o, h.get? d = some o -> h'.get? d = some o) (hx : ∀ x ∈ xs, (tupleKind knd).is h' x.1 x.2.1) : h'.DictOfH (tupleKind knd) d xs := by
  obtain ⟨o, es, ep, ho, hc, hdat, he, _, hn⟩ := q;exact ⟨o, es, ep, hd o ho, hc, hdat, he, hx, hn⟩
theorem zft {A : Around} {hB : Heap} {g : Array GenState} {dr : Drawn} {os : OsState} {d it l : Addr} {items : Array Value} {ps : List (List K × Addr × Value)} {R : Result -> Shared -> Prop} (hA : A.handled = none) (hu : (tupleKind knd).room A.in1) (hl : hB.IsList l items) (hP : d9 knd hB items ps) (hd : hB.objs.size <= d) (hi : hB.objs.size <= it) (hdi : d ≠ it) (hz : ps.length <= sizeLine)
    (hR : ∀ h' tk, (∀ c o, hB.get? c = some o -> h'.get? c = some o) -> h'.DictOfH (tupleKind knd) d (accH ps ps.length) -> R (.ok (.ret .none)) ⟨h', g, dr, tk, os⟩) :
    ∀ (k i : Nat) (h : Heap) (tk : Nat), ps.length - i = k -> i <= ps.length -> (∀ c o, hB.get? c = some o -> h.get? c = some o) -> h.IsListIter it l i -> h.DictOfH (tupleKind knd) d (accH ps i) -> (∀ x ∈ accH ps i, (tupleKind knd).is hB x.1 x.2.1) ->
      codeAny (model prog w) A (.builtin "dict.update.loop" ⟨[.ref d, .ref it, rawInt i, .none], []⟩) R ⟨h, g, dr, tk, os⟩ := by
  have ltB : ∀ {c o}, hB.get? c = some o -> c < hB.objs.size := fun e => Heap.lt_size e
  intro k
  induction k with
  | zero =>
    intro i h tk hk hi' kp hit hD hG;have e : i = ps.length := by omega
    subst e;refine codeAny_builtin cx ?_;rw [Around.under_plainId mt _];have hl' : h.IsList l items := hl.at fun o e => kp _ o e
    show wpAny _ A.in1 (pyNext (.ref it) >>= _) _ _ _
    refine wpAny_bind (wpAny_pyNext_list_end (s := ⟨h, g, dr, tk, os⟩) hA hit hl' (by rw [Array.getElem?_eq_none]; rw [hP.len]; exact Zm _) fun h' ext => ?_)
    replace ext : Heap.ExtBut it h h' := ext
    have kp' : ∀ c o, hB.get? c = some o -> h'.get? c = some o := fun c o e => ext c o (Zs (Zh (ltB e) hi)) (kp c o e)
    show wpAny _ _ (Builtin.Dict.addKeywords d [] >>= _) _ _ _
    exact wpAny_bind (wpAny_pure (wpAny_pure (hR h' tk kp' (jf hD (fun o e => ext d o hdi e) fun x hx => isK (hG x hx) fun o e => kp' _ o e))))
  | succ k ih =>
    intro i h tk hk hi' kp hit hD hG;have hlt : i < ps.length := by omega
    have ep : ps[i]? = some ps[i] := Zb hlt;obtain ⟨T, eT, hT, hK⟩ := hP.at' i _ ep;refine codeAny_builtin cx ?_;rw [Around.under_plainId mt _];have hl' : h.IsList l items := hl.at fun o e => kp _ o e
    show wpAny _ A.in1 (pyNext (.ref it) >>= _) _ _ _
    refine wpAny_bind (wpAny_pyNext_list_item (s := ⟨h, g, dr, tk, os⟩) hit hl' eT fun h1 hit1 sb => ?_)
    replace sb : Heap.SameBut it h h1 := sb
    have kp1 : ∀ c o, hB.get? c = some o -> h1.get? c = some o := fun c o e => sb.extBut c o (Zs (Zh (ltB e) hi)) (kp c o e)
    have hD1 : h1.DictOfH (tupleKind knd) d (accH ps i) := jf hD (fun o e => sb.extBut d o hdi e) fun x hx => isK (hG x hx) fun o e => kp1 _ o e
    obtain ⟨oT, eoT, cT, nT, dT⟩ := hT;have hTs : (⟨h1, g, dr, tk, os⟩ : Shared).TypeIs (.ref T) "tuple" := ⟨oT, kp1 _ _ eoT, cT⟩
    show wpAny _ A.in1 (holding [Value.ref T] _ >>= _) _ _ _
    refine wpAny_bind (wpAny_holding ?_);refine wpAny_bind (wpAny_tryCatch ?_);unfold Builtin.Dict.pairItems;refine wpAny_bind (wpAny_typeOf hTs ?_);rw [if_pos (by decide)];refine wpAny_bind (wpAny_seqItems (s := ⟨h1, g, dr, tk, os⟩) (kp1 _ _ eoT) dT ?_);refine wpAny_pure ?_
    show wpAny _ A.in1 (holding [Value.ref ps[i].2.1, ps[i].2.2] (dictSet d (Value.ref ps[i].2.1) ps[i].2.2)) _ _ _
    refine wpAny_holding ?_;refine wpAny_dictSet_heap (s := ⟨h1, g, dr, tk, os⟩) hu (isK hK fun o e => kp1 _ o e) hD1 (fun h2 hD2 sb2 => ?_) (Zd (zac ps i hi') (by omega))
    replace sb2 : Heap.SameBut d h1 h2 := sb2
    have kp2 : ∀ c o, hB.get? c = some o -> h2.get? c = some o := fun c o e => sb2.extBut c o (Zs (Zh (ltB e) hd)) (kp1 c o e)
    rw [<- jy ep] at hD2;refine wpAny_pure ⟨plainId_quiet mt _, ?_⟩
    have := ih (i + 1) h2 (tk + (tupleKind knd).draws ps[i].1) (by omega) hlt kp2 (hit1.extBut sb2.extBut (Ne.symm hdi)) hD2 (by
      rw [jy ep]
      exact zb0 (G := fun k b => (tupleKind knd).is hB k b) hG hK)
    exact this
theorem dt {A : Around} {E : Value -> Shared -> Prop} {s : Shared} {l : Addr} {o : Obj} {items : Array Value} {n : Nat} {ps : List (List K × Addr × Value)} {Q : Value -> Shared -> Prop} (hA : A.handled = none) (hu : A.units + 8 < cLine) (ho : s.heap.get? l = some o) (hc : o.cls = .type "list") (hdat : o.data = .seq items n) (hdn : o.dict = none) (hP : d9 knd s.heap items ps) (hz : ps.length <= sizeLine)
    (h : ∀ h' tk, (∀ c o, s.heap.get? c = some o -> h'.get? c = some o) -> h'.DictOfH (tupleKind knd) s.heap.objs.size (accH ps ps.length) -> Q (.ref s.heap.objs.size) { s with heap := h', toks := tk }) :
    wpAny (model prog w) A (call (.type "dict") [.ref l]) Q E s := by
  refine callType_codes (Q₁ := fun obj s₁ => obj = .ref s.heap.objs.size /\ s₁ = { s with heap := s.heap.push { cls := .type "dict", data := .dict #[] } }) F.kt_called_dict (F.kt_typeCall_dict_1 _) F.entry_dict_init (kt_code_dict_new _ ⟨rfl, rfl⟩) ?_
  rintro obj s₁ ⟨rfl, rfl⟩
  have hnew : (s.heap.push { cls := .type "dict", data := .dict #[] }).DictOfH (tupleKind knd) s.heap.objs.size [] := Heap.DictOfH.new s.heap;have ho' : (s.heap.push { cls := .type "dict", data := .dict #[] }).get? l = some o := Heap.get?_push_of_some _ ho;refine ⟨⟨_, Heap.get?_push_size _ rfl, rfl⟩, F.args_dict_init_2 _ _, ?_⟩;unfold Builtin.«dict.__init__»;refine wpAny_bind ?_;unfold Builtin.Dict.selfAndRest;refine wpAny_bind (wpAny_notOrdered_dict ⟨_, Heap.get?_push_size _ rfl, rfl⟩ ?_)
  show wpAny _ _ (pure (s.heap.objs.size, [Value.ref l])) _ _ _
  refine wpAny_pure ?_
  show wpAny _ _ (Builtin.Dict.updateFrom "dict.__init__" s.heap.objs.size (.ref l) [] .none) _ _ _
  unfold Builtin.Dict.updateFrom;refine wpAny_bind (wpAny_typeOf ⟨_, ho', hc⟩ ?_);rw [if_pos (by decide)];refine wpAny_bind (jo ho' hc hdat hdn hA fun h1 tk1 k1 => ?_);rw [if_pos (by decide)];refine wpAny_bind (wpAny_rule ?_);have hl1 : h1.IsList l items := ⟨o, k1 _ _ ho', hc, n, hdat⟩;have hd1 : h1.get? s.heap.objs.size = some { cls := .type "dict", data := .dict #[] } := k1 _ _ (Heap.get?_push_size _ rfl);have hlt : s.heap.objs.size < h1.objs.size := Heap.lt_size hd1;refine wpAny_bind (wpAny_pyIter_list (s := ⟨h1, s.gens, s.drawn, tk1, s.os⟩) hl1 (wpAny_pure ⟨plainId_quiet mt _, ?_⟩));have kp : ∀ c o, s.heap.get? c = some o -> (h1.push { cls := .type "list_iterator", data := .fields #[.ref l, .int 0 0] }).get? c = some o := fun c o e => Heap.get?_push_of_some _ (k1 _ _ (Heap.get?_push_of_some _ e))
  refine zft (knd := knd) (A := A.in1) (hB := s.heap) (g := s.gens) (dr := s.drawn) (os := s.os) (l := l) (items := items) (ps := ps) hA (tupleKind_room_in1 (A := A.in1) (by show A.units + 1 + 1 < cLine; omega)) ⟨o, ho, hc, n, hdat⟩ hP (Zm _) (YF hlt) (Zs hlt) hz
    (fun h' tk kp' hD => ⟨rfl, h h' tk kp' hD⟩) ps.length 0 _ tk1 (by omega) (ZE _) kp ⟨_, Heap.get?_push_size _ rfl, rfl, rfl⟩ (jf hnew (fun o e => Heap.get?_push_of_some _ (k1 _ _ e)) fun x hx => by cases hx) (fun x hx => by cases hx)
end
end L2
namespace L2
open PySem PySem.Spec PyProof.Rows
def nq (kvs : List (List Key × V)) : List (List Key × V) := kvs.foldl (fun acc kv => putK acc kv.1 kv.2) []
structure so (H : Hp) (Ts : List Addr) (kvs : List (List Key × V)) : Prop where
  len : Ts.length = kvs.length
  at' : ∀ (i : Nat) (T : Addr) (kv : List Key × V), Ts[i]? = some T -> kvs[i]? = some kv -> ∃ b, H T = some (.tup [.ref b, kv.2]) /\ H b = some (.tup (kv.1.map kV))
def zgc (xs : List V) (H : Hp) (Q : VK) : Prop := ∃ (l : Addr) (Ts : List Addr) (kvs : List (List Key × V)), xs = [.ref l] /\ H l = some (.lst (Ts.map V.ref)) /\ so H Ts kvs /\ ∀ p, H p = none -> Q (.ref p) (upd H p (.dT (nq kvs)))
theorem ziv {xs : List V} {H : Hp} {Q : VK} : zgc xs H Q = ∃ (l : Addr) (Ts : List Addr) (kvs : List (List Key × V)), xs = [.ref l] /\ H l = some (.lst (Ts.map V.ref)) /\ so H Ts kvs /\ ∀ p, H p = none -> Q (.ref p) (upd H p (.dT (nq kvs))) := rfl
section
variable {X : Cx} {pins : List (Addr × Obj)} {σ : St} {H : Hp} {s : Shared}
theorem zaw (I : Inv X pins σ H s) : ∀ {Ts : List Addr} {kvs : List (List Key × V)} {us : List Value}, so H Ts kvs -> Vals (Ts.map V.ref) us -> ∃ ps : List (List Key × Addr × Value), d9 (wy X.prog X.w) s.heap us.toArray ps /\ KT H kvs ps
  | [], [], us, q, r => by
    cases r;exact ⟨[], ⟨rfl, fun i p e => by simp at e⟩, .nil⟩
  | T :: Ts, kv :: kvs, us, q, r => by
    rw [ZM] at r
    cases r with
    | @cons _ u _ us r0 r1 =>
      obtain ⟨ps, P, k⟩ := zaw I (Ts := Ts) (kvs := kvs) ⟨by simpa using q.len, fun i T kv e1 e2 => q.at' (i + 1) T kv (by simpa using e1) (by simpa using e2)⟩ r1;obtain ⟨b, hT, hb⟩ := q.at' 0 T kv rfl rfl;obtain ⟨z, its, rr, hI⟩ := (show ObjOk X.prog X.w H s.heap T (.tup [.ref b, kv.2]) from I.hok T _ hT);obtain ⟨u1, u2, rfl, ru1, ru2⟩ := Vals.two rr;obtain rfl : u1 = Value.ref b := ru1;obtain rfl : u = Value.ref T := r0;refine ⟨(kv.1, b, u2) :: ps, ⟨by simp [<- P.len], fun i p e => ?_⟩, .cons ⟨rfl, hb, ru2⟩ k⟩
      cases i with
      | zero =>
        simp at e;subst e;obtain ⟨o, e1, c1, n1, d1, _⟩ := hI;exact ⟨T, by simp, ⟨o, e1, c1, n1, d1⟩, zbl I.hok hb⟩
      | succ i =>
        obtain ⟨T', a1, a2, a3⟩ := P.at' i p (by simpa using e);exact ⟨T', by simpa using a1, a2, a3⟩
  | [], kv :: kvs, us, q, r => by simpa using q.len
  | T :: Ts, [], us, q, r => by simpa using q.len
theorem kt_acc {kvs : List (List Key × V)} {ps : List (List Key × Addr × Value)} (k : KT H kvs ps) : KT H (nq kvs) (accH ps ps.length) := by
  have go : ∀ (l : List (List Key × V)) (m : List (List Key × Addr × Value)) (a : List (List Key × V)) (b : List (List Key × Addr × Value)), KT H l m -> KT H a b -> KT H (l.foldl (fun acc kv => putK acc kv.1 kv.2) a) (m.foldl (fun xs p => storedH xs p.1 p.2.1 p.2.2) b) := by
    intro l m a b q
    induction q generalizing a b with
    | nil => intro z; exact z
    | @cons p q ps qs h t ih =>
      intro z;obtain ⟨h1, h2, h3⟩ := h;refine ih _ _ ?_
      show KT H (putK a p.1 p.2) (storedH b q.1 q.2.1 q.2.2)
      rw [<- h1];exact z.put p.1 h2 h3
  unfold accH;rw [Zt];exact go _ _ _ _ k .nil
theorem zdw (kvs : List (List Key × V)) : (nq kvs).length <= kvs.length := by
  have go : ∀ (l a : List (List Key × V)), (l.foldl (fun acc kv => putK acc kv.1 kv.2) a).length <= a.length + l.length := by
    intro l
    induction l with
    | nil => intro a; exact Zm _
    | cons p l ih =>
      intro a;have h1 := ih (putK a p.1 p.2);have h2 := zby a p.1 p.2;simp only [YT, ZL];omega
  have := go kvs []
  simpa [nq] using this
theorem zex {kvs : List (List Key × V)} (h : (kvs.map (·.1)).Nodup) : nq kvs = kvs := by
  have go : ∀ (l a : List (List Key × V)), ((a ++ l).map (·.1)).Nodup -> l.foldl (fun acc kv => putK acc kv.1 kv.2) a = a ++ l := by
    intro l
    induction l with
    | nil => intro a _; simp
    | cons p l ih =>
      intro a hn
      have hno : valV a p.1 = none := by
        cases e : valV a p.1 with
        | none => rfl
        | some v =>
          exfalso
          have hm := zhz e;rw [Zn, Yh] at hn;exact hn.2.2 _ hm _ (by simp) rfl
      rw [YT, zg2 _ hno, ih _ (by simpa using hn)];simp
  exact go kvs [] (by simpa using h)
theorem zed (hc : X.calm = true) (hu : X.A.units + 8 < cLine) : ux X (.type "dict") zgc := by
  intro pins s σ H xs us Q I r h;obtain ⟨l, Ts, kvs, rfl, hl, hP, q⟩ := h;obtain ⟨u, rfl, ru⟩ := ml r;obtain rfl : u = Value.ref l := ru;obtain ⟨its, rv, pl, hz⟩ := I.list (SqL.of hl);obtain ⟨ps, P, k⟩ := zaw I hP rv;obtain ⟨o, n, e, c, d, dat⟩ := id pl;have hps : ps.length = kvs.length := (Paired.length k).symm;have hkl : kvs.length <= sizeLine := by rw [Za, hP.len] at hz; exact hz
  refine dt (knd := wy X.prog X.w) (I.ok.hd hc) hu e c dat d P (by omega) fun h' tk kp hD => ?_
  have hn : H s.heap.objs.size = none := I.hok.fresh (Zm _);refine ⟨.ref s.heap.objs.size, upd H s.heap.objs.size (.dT (nq kvs)), I.laid (t' := tk) (fun b u e => kp b u e) (Zm _) ?_, rfl, q _ hn⟩;obtain ⟨ob, es, ep, g1, g2, g3, g4, _, g6⟩ := hD;have hb := I.big;refine ⟨Zd (zdw kvs) hkl, ?_, accH ps ps.length, (kt_acc k).keeps fun b ys e => ?_, ob, es, ep, g1, g2, g3, g4, g6⟩
  . exact beq_eq_false_iff_ne.mpr (ZR hb)
  . rw [zr (fun z => by rw [z, hn] at e; cases e)]
    exact e
end
end L2
namespace L2
open PySem
theorem hu11 {A : Around} {k : Nat} (hr : Room k A) : A.units + 8 < cLine := by have := hu9 hr; omega
end L2
namespace L2
open PySem PySem.Spec PyProof.Rows
section
variable {X : Cx} {pins : List (Addr × Obj)} {σ : St} {H : Hp} {k : Nat} {f : Addr} {fd : FuncData} {ps : List Str} {sp : Sp}
def tMaxK (K : Fg) (sp : Sp) (ta : TA) : TE := fun σ H Q => ta σ H fun vs H1 => ∃ (l : Addr) (xs : List V) (kf : Nat -> Int), vs = [.ref l] /\ SqL K H1 l xs /\ 0 < xs.length /\
  (∀ i x, xs[i]? = some x -> sp [x] H1 (fun v H' => v = .int (kf i) /\ H' = H1) E0) /\ ∀ i x, xs[i]? = some x -> (∀ j, j < xs.length -> kf j <= kf i /\ (j < i -> kf j < kf i)) -> Q x H1
theorem e_maxK {K : Fg} {ta : TA} {Q : VK} : tMaxK K sp ta σ H Q = ta σ H fun vs H1 => ∃ (l : Addr) (xs : List V) (kf : Nat -> Int), vs = [.ref l] /\ SqL K H1 l xs /\ 0 < xs.length /\
  (∀ i x, xs[i]? = some x -> sp [x] H1 (fun v H' => v = .int (kf i) /\ H' = H1) E0) /\ ∀ i x, xs[i]? = some x -> (∀ j, j < xs.length -> kf j <= kf i /\ (j < i -> kf j < kf i)) -> Q x H1 := rfl
end
end L2
namespace L2
open PySem PySem.Spec PyProof.Rows
section
variable {X : Cx}
def rDictK (xs : List V) (H : Hp) (Q : VK) : Prop := ∃ (a : Addr) (kvs : List (Key × V)), xs = [.ref a] /\ H a = some (.dK kvs) /\ ∀ p, H p = none -> Q (.ref p) (upd H p (.dK kvs))
theorem zi9 {xs : List V} {H : Hp} {Q : VK} : rDictK xs H Q = ∃ (a : Addr) (kvs : List (Key × V)), xs = [.ref a] /\ H a = some (.dK kvs) /\ ∀ p, H p = none -> Q (.ref p) (upd H p (.dK kvs)) := rfl
def rEqK (x y : V) (H : Hp) (Q : VK) : Prop := ∃ (a b : Addr) (kvs : List (Key × V)), x = .ref a /\ y = .ref b /\ H a = some (.dK kvs) /\ H b = some (.dK kvs) /\ (∀ kv ∈ kvs, xi kv.2 = true) /\ Q (.bl true) H
theorem e_eqK {x y : V} {H : Hp} {Q : VK} : rEqK x y H Q = ∃ (a b : Addr) (kvs : List (Key × V)), x = .ref a /\ y = .ref b /\ H a = some (.dK kvs) /\ H b = some (.dK kvs) /\ (∀ kv ∈ kvs, xi kv.2 = true) /\ Q (.bl true) H := rfl
end
end L2
namespace L2
open PySem PySem.Spec PyProof.Rows
section
variable {X : Cx}
def zie (K : Fg) : V -> List V -> Hp -> VK -> Prop := fun x vs H Q => ∃ p xs y, x = .ref p /\ vs = [y] /\ SqT K H p xs /\ xi y = true /\ xs.all xi = true /\ Q (.int ((xs.countP fun z => eqV z y : Nat) : Int)) H
theorem zg1 {K : Fg} {x : V} {vs : List V} {H : Hp} {Q : VK} : zie K x vs H Q = ∃ p xs y, x = .ref p /\ vs = [y] /\ SqT K H p xs /\ xi y = true /\ xs.all xi = true /\ Q (.int ((xs.countP fun z => eqV z y : Nat) : Int)) H := rfl
end
end L2
namespace L2
open PySem PySem.Spec PyProof.Rows
def ka (ns : List (Str × NameKind)) : Bool := ns.all fun y => ns.lookup y.1 == some y.2
theorem qd {ns : List (Str × NameKind)} (h : ka ns = true) {y : Str × NameKind} (hy : y ∈ ns) {k : NameKind} (e : y.2 = k) : ns.lookup y.1 = some k := by
  have q := ZQ.mp h y hy;rw [<- e]
  simpa using q
theorem zd2 {ns : List (Str × NameKind)} (h : ka ns = true) {y : Str × NameKind} (hy : y ∈ ns) (e : y.2 = .free) : ∀ k, (y.1, k) ∈ ns -> k ≠ .cell := fun k hk z => by
  have h1 := qd h hy e;have h2 := qd h hk (k := k) rfl;rw [h1] at h2;cases h2;cases z
theorem sd {x : Str} : ∀ {names : List (Str × NameKind)} {n : Nat} {acc : List (Str × Addr)}, (∀ k, (x, k) ∈ names -> k ≠ .cell) -> (cellsFrom n names acc).lookup x = acc.lookup x
  | [], _, _, _ => rfl
  | (y, k) :: r, n, acc, h => by
    unfold cellsFrom;have hr : ∀ k, (x, k) ∈ r -> k ≠ .cell := fun k hk => h k (Zv _ hk)
    split
    . rename_i hk
      rw [sd hr, ZF]
      cases hx : x == y with
      | true =>
        have e : x = y := eq_of_beq hx;subst e;exact absurd (eq_of_beq hk) (h k ZA)
      | false => rfl
    . exact sd hr
structure zcs (cl : List (Str × Addr)) (lo : Nat) (h : Heap) (cs : List (Str × Addr)) : Prop where
  get : ∀ x c, cs.lookup x = some c -> (cl.lookup x = some c /\ c < lo) \/ (lo <= c /\ h.IsCell c none)
  inj : ∀ x y c, cs.lookup x = some c -> cs.lookup y = some c -> x = y
theorem qy {cl : List (Str × Addr)} {lo : Nat} : ∀ (names : List (Str × NameKind)) (h : Heap) (acc : List (Str × Addr)), lo <= h.objs.size -> zcs cl lo h acc -> zcs cl lo (pushCells h names) (cellsFrom h.objs.size names acc)
  | [], _, _, _, x => x
  | (name, kind) :: r, h, acc, hlo, I => by
    unfold pushCells cellsFrom
    split
    . have big : ∀ y c, acc.lookup y = some c -> c ≠ h.objs.size := fun y c e z => by
        rcases I.get y c e with ⟨_, q⟩ | ⟨_, q⟩
        . exact ZJ _ (Zh (z ▸ q) hlo)
        . exact ZJ _ (z ▸ q.lt)
      have := qy (cl := cl) (lo := lo) r (h.push { cls := .type "cell", data := .cell none }) ((name, h.objs.size) :: acc) (by rw [Heap.size_push]; exact YQ hlo) ⟨fun x c e => ?_, fun x y c e1 e2 => ?_⟩
      . rwa [Heap.size_push] at this
      . rw [ZF] at e
        cases hx : x == name with
        | true => rw [hx] at e; cases e; exact .inr ⟨hlo, _, Heap.get?_push_size _ rfl, rfl⟩
        | false =>
          rw [hx] at e
          rcases I.get x c e with q | ⟨q1, q2⟩
          . exact .inl q
          . exact .inr ⟨q1, q2.keeps fun b o e => Heap.get?_push_of_some _ e⟩
      . rw [ZF] at e1 e2
        cases hx : x == name with
        | true =>
          rw [hx] at e1;cases e1
          cases hy : y == name with
          | true => rw [eq_of_beq hx, eq_of_beq hy]
          | false => rw [hy] at e2; exact absurd rfl (big y _ e2)
        | false =>
          rw [hx] at e1
          cases hy : y == name with
          | true => rw [hy] at e2; cases e2; exact absurd rfl (big x _ e1)
          | false => rw [hy] at e2; exact I.inj x y c e1 e2
    . exact qy r h acc hlo I
theorem zb8 {M : Model} {A : Around} {E : Value -> Shared -> Prop} {s : Shared} {scope : Scope} {globals : Addr} {cl : List (Str × Addr)} {qual : Str} {outer : Env} {Q : Env -> Shared -> Prop}
    (hQ : (pushCells (s.heap.push { cls := .type "dict", data := .dict #[] }) scope.names).Ns s.heap.objs.size (fun _ => none) -> (∀ b o, s.heap.get? b = some o -> (pushCells (s.heap.push { cls := .type "dict", data := .dict #[] }) scope.names).get? b = some o) ->
      Q (newEnv scope s.heap.objs.size globals (cellsFrom (s.heap.objs.size + 1) scope.names cl) qual none .none (some outer) builtinsNs) { s with heap := pushCells (s.heap.push { cls := .type "dict", data := .dict #[] }) scope.names }) :
    wpAny M A (newFunctionEnv scope globals cl [] qual none .none (some outer)) Q E s := by
  simp only [newFunctionEnv, Option.isSome_some, if_true];refine wpAny_bind (wpAny_alloc ?_);refine wpAny_bind (wpAny_layCells _ (fun name kind cells => by cases hkc : kind == NameKind.cell <;> simp [hkc]) _ _ _ _ ?_);rw [show ({ s with heap := s.heap.push { cls := .type "dict", data := .dict #[] } } : Shared).heap.objs.size = s.heap.objs.size + 1 from Heap.size_push ..];refine wpAny_bind ?_;rw [List.forIn_nil];exact wpAny_pure (wpAny_pure (hQ ((Heap.Ns.new s.heap (.type "dict")).keeps (pushCells_keeps _ _)) fun b o e => pushCells_keeps _ _ b o (Heap.get?_push_of_some _ e)))
theorem ph {x : Str} {lo : Nat} : ∀ {names : List (Str × NameKind)} {n : Nat} {acc : List (Str × Addr)} {c : Addr}, ((x, NameKind.cell) ∈ names \/ ∀ c, acc.lookup x = some c -> lo <= c) -> lo <= n -> (cellsFrom n names acc).lookup x = some c -> lo <= c
  | [], _, _, c, h, _, e => h.elim (fun z => nomatch z) fun z => z c e
  | (y, k) :: r, n, acc, c, h, hn, e => by
    unfold cellsFrom at e
    by_cases hk : (k == NameKind.cell) = true
    . rw [if_pos hk] at e
      refine ph (?_) (YQ hn) e
      by_cases hx : (x == y) = true
      . right
        intro d hd;rw [ZF, hx] at hd;cases hd;exact hn
      . rcases h with z | z
        . rcases ZK.mp z with q | q
          . cases q
            simp at hx
          . exact .inl q
        . right
          intro d hd;rw [ZF, Bool.eq_false_iff.mpr hx] at hd;exact z d hd
    . rw [if_neg hk] at e
      refine ph (?_) hn e
      rcases h with z | z
      . rcases ZK.mp z with q | q
        . cases q
          exact absurd rfl hk
        . exact .inl q
      . exact .inr z
abbrev yo (X : Cx) (scope : Scope) (N' : List Str) (d : Dyn) : Cx where
  prog := X.prog
  w := X.w
  K := X.K
  mg := X.mg
  base := X.base
  A := X.A
  N := N'
  s₀ := d.s₀
  H₀ := d.H₀
  env := compEnvC scope d.cl d.C X.env
  outer := X.stack
  stack := X.stack
  ex := d.fp
  fn := fun x => scope.names.lookup x == some .cell
  calm := true
  pn := []
  xe := fun _ _ => False
structure ClOk (X : Cx) (s₂ : Shared) (scope : Scope) (cl : List (Str × Addr)) (C D : Addr) : Prop where
  inj : ∀ x y c, cl.lookup x = some c -> cl.lookup y = some c -> x = y
  old : ∀ x c, cl.lookup x = some c -> X.env.cells.lookup x = some c \/ (s₂.heap.objs.size <= c /\ c ≠ C /\ c ≠ D)
  free : ∀ y ∈ scope.names, y.2 = .free -> ∃ c, cl.lookup y.1 = some c /\ X.env.cells.lookup y.1 = some c
  own : ∀ y ∈ scope.names, y.2 = .cell -> ∃ c, cl.lookup y.1 = some c
  new : ∀ x c, scope.names.lookup x = some .cell -> cl.lookup x = some c -> s₂.heap.objs.size <= c
section
variable {X : Cx} {pins : List (Addr × Obj)} {σ : St} {H2 : Hp} {s₂ : Shared} {scope : Scope} {ts N2 : List Str} {cl : List (Str × Addr)} {C D : Addr} {fp : List Addr}
theorem zgv (I2 : Inv X pins σ H2 s₂) (hc : X.calm = true) (f2 : ∀ b ∈ fp, FpOk X pins H2 b /\ b < s₂.heap.objs.size) (hkind : scope.kind = .function) (hown : ka scope.names = true) (hfree : u5 scope.names X.env = true)
    (hcl : ClOk X s₂ scope cl C D) (hC : s₂.heap.objs.size <= C) :
    (yo X scope (ts ++ N2) ⟨cl, C, s₂, H2, fp⟩).Ok := by
  refine ⟨I2.ok.mod, hkind, I2.ok.glob, I2.ok.blt, hC, hcl.inj, fun x hx => ?_, fun x c z e => hcl.new x c (by simpa using z) e, fun _ => I2.ok.hd hc, I2.ok.frames, .inl rfl, fun b hb => ?_, I2.bs, Zd I2.ok.bsz I2.sz, fun b o e hb => ?_, fun b hb hfs => ?_, I2.stack, I2.stkFree⟩
  . have hx' : (relabel scope X.env).names.lookup x = some .cell \/ (relabel scope X.env).names.lookup x = some .free := hx
    have e0 : (relabel scope X.env).names.lookup x = _ := vd (env := X.env) (x := x) (ns := scope.names);rw [e0] at hx'
    cases q : scope.names.lookup x with
    | none => rw [q] at hx'; simp at hx'
    | some k =>
      rw [q] at hx';simp only [Yk, Option.some.injEq] at hx';have hm : (x, k) ∈ scope.names := PySem.mem_of_lookup q
      have hk : k = .free \/ k = .cell := by
        split at hx'
        . rename_i hcond
          simp only [Bool.and_eq_true] at hcond;exact .inl (eq_of_beq hcond.1.1)
        . rcases hx' with z | z
          . exact .inr z
          . exact .inl z
      rcases hk with hk | hk
      . obtain ⟨c, e, _⟩ := hcl.free _ hm hk
        exact ⟨c, e⟩
      . exact hcl.own _ hm hk
  . obtain ⟨⟨f0, f1, f3, f4, f5, f6⟩, hlt⟩ := f2 b hb
    exact ⟨Zs (Zh hlt hC), fun x c e => (hcl.old x c e).elim (f5 x c) fun z => ZR (Zh hlt z.1)⟩
  . obtain ⟨⟨f0, f1, f3, f4, f5, f6⟩, hlt⟩ := f2 b hb
    rcases f4 with z | z
    . exact I2.ok.noex b o e z
    . exact absurd (Zh (Heap.lt_size e) (Zd I2.ok.bsz z)) (ZJ _)
  . obtain ⟨⟨f0, f1, f3, f4, f5, f6⟩, hlt⟩ := f2 b hb
    rcases ZK.mp (I2.stkSub b hfs) with z | z
    . exact f1 z
    . exact f3 z
theorem zb7 (I2 : Inv X pins σ H2 s₂) (hc : X.calm = true) (f2 : ∀ b ∈ fp, FpOk X pins H2 b /\ b < s₂.heap.objs.size) (hkind : scope.kind = .function) (hown : ka scope.names = true) (hfree : u5 scope.names X.env = true) (hout : wp scope.names N2 X.N = true)
    (hcl : ClOk X s₂ scope cl C D) (hC : s₂.heap.objs.size <= C) (hDC : D ≠ C) (hD : s₂.heap.objs.size <= D)
    {h₁ : Heap} {tk : Nat} {m : Str -> Option Value} (hn : h₁.Ns C m) (old : ∀ b o, s₂.heap.get? b = some o -> h₁.get? b = some o) (hacc : h₁.get? D = some (lobj [])) (hnew : ∀ x c, cl.lookup x = some c -> s₂.heap.objs.size <= c -> ∃ v, h₁.IsCell c v) :
    Inv (yo X scope (ts ++ N2) ⟨cl, C, s₂, H2, fp⟩) [(D, lobj [])] (List.replicate ts.length none ++ σ) H2 { s₂ with heap := h₁, toks := tk } := by
  have ok := zgv (ts := ts) (N2 := N2) (D := D) I2 hc f2 hkind hown hfree hcl hC
  have hlN : ∀ {a b : List Str}, wp scope.names a b = true -> a.length = b.length := by
    intro a
    induction a with
    | nil => intro b h; cases b with | nil => rfl | cons _ _ => cases h
    | cons y ys ih =>
      intro b h
      cases b with
      | nil => cases h
      | cons n ms =>
        unfold wp at h;rw [Bool.and_eq_true] at h;rw [ZL, ZL, ih h.2]
  refine ⟨ok, rfl, I2.bare, Un.kept old, ⟨m, hn, fun i x v e1 e2 e3 => ?_⟩, fun x c e => ?_, ?_, fun x c e => (hcl.old x c e).elim (I2.freeC x c) fun z => I2.hok.fresh z.1, fun p hp => ?_, I2.hok.kept old, ?_⟩
  . by_cases hi : i < ts.length
    . rw [Zg (by simpa using hi), Yc] at e2
      split at e2 <;> cases e2
    . have hi' : ts.length <= i := ZD.mp hi
      rw [Zf (by simpa using hi')] at e2;rw [ZI] at e2;have e1' : (ts ++ N2)[i]? = some x := e1;rw [Zf hi'] at e1';obtain ⟨k1, k2⟩ := k7 hout e1';have e0 : (relabel scope X.env).names.lookup x = _ := vd (env := X.env) (x := x) (ns := scope.names);have e3' : (relabel scope X.env).names.lookup x = some .local \/ (relabel scope X.env).names.lookup x = some .cell \/ (relabel scope X.env).names.lookup x = some .free := e3;rw [e0] at e3'
      cases q : scope.names.lookup x with
      | none => rw [q] at e3'; simp at e3'
      | some k =>
        have hm : (x, k) ∈ scope.names := PySem.mem_of_lookup q
        have hk : k = .free := by
          unfold iw at k1;rw [q] at k1 e3'
          cases k with
          | free => rfl
          | «local» => cases k1
          | cell => cases k1
          | _ => exfalso; revert e3'; simp
        subst hk;obtain ⟨mo, hmo, hl⟩ := I2.loc;have hkv := rb hfree hm rfl;have vis : Vis X.env.scope x := hkv.elim (fun z => .inr (.inl z)) fun z => .inr (.inr z)
        obtain ⟨u, r, l⟩ := hl _ x v (k2 q) e2 vis;refine ⟨u, r, .inr ⟨?_, ?_⟩⟩
        . show (relabel scope X.env).names.lookup x = some .cell \/ (relabel scope X.env).names.lookup x = some .free
          rw [e0, q];simp only [Yk, Option.some.injEq]
          split
          . exact .inl rfl
          . exact .inr rfl
        . rcases l with ⟨kl, _⟩ | ⟨_, c, ec, z⟩
          . exfalso
            rcases hkv with z | z <;> (rw [kl] at z; cases z)
          . obtain ⟨c', ec', this⟩ := hcl.free _ hm rfl
            rw [ec] at this;cases this;obtain ⟨o, ho, hd⟩ := z;exact ⟨c, ec', o, old _ _ ho, hd⟩
  . rcases hcl.old x c e with z | z
    . obtain ⟨v, o, ho, hd⟩ := I2.cell x c z
      exact ⟨v, o, old _ _ ho, hd⟩
    . exact hnew x c e z.1
  . exact I2.hok.fresh hC
  . have e : p = (D, lobj []) := by simpa using hp
    subst e;refine ⟨hacc, I2.hok.fresh hD, hDC, fun z => ?_, fun v z => by cases z⟩
    rcases ZK.mp (I2.stkSub D z) with z | z
    . exact absurd (Zh I2.lt (by rw [<- z]; exact hD)) (ZJ _)
    . exact I2.nofs hD z
  . show (List.replicate ts.length none ++ σ).length = (ts ++ N2).length
    rw [Zo, Zo, ZI, I2.len, hlN hout]
theorem zgd (I2 : Inv X pins σ H2 s₂) (f2 : ∀ b ∈ fp, FpOk X pins H2 b) (hD : s₂.heap.objs.size <= D) {σ' : St} {H' : Hp} {s' : Shared} {its : List Value} {ys : List V} {pl : List (Addr × Obj)}
    (J : Inv (yo X scope (ts ++ N2) ⟨cl, C, s₂, H2, fp⟩) pl σ' H' s') (hp : s'.heap.get? D = some (lobj its)) (hn : H' D = none) (hv : Vals ys its) (hz : ys.length <= sizeLine) : Inv X pins σ (upd H' D (.lst ys)) s' := by
  have neD : ∀ b o, s₂.heap.get? b = some o -> b ≠ D := fun b o e => Zs (Zh (Heap.lt_size e) hD)
  have neH : ∀ b o, H2 b = some o -> b ≠ D := fun b o e => Zs (Zh (I2.hok.lt e) hD)
  have u := J.base
  have un : Un (frs X.stack) fp H2 (upd H' D (.lst ys)) s₂.heap s'.heap :=
    ⟨u.keep, u.slot, fun b o e n hx => by rw [zr (neD b o e)]; exact u.free b o e n hx, u.there, fun b xs e => by rw [zr (neH b _ e)]; exact u.tups b xs e, fun b o v e => by rw [zr (neH b _ e)]; exact u.frzs b o v e,
      fun b ps e => by rw [zr (neH b _ e)]; exact u.tbls b ps e⟩
  have hok : HOk X.prog X.w (upd H' D (.lst ys)) s'.heap := fun b o e => by
    by_cases hb : b = D
    . subst hb
      rw [zf] at e;cases e;exact ⟨hz, its, its.length, hv, hp⟩
    . rw [zr hb] at e
      exact (J.hok b o e).stay (fun c v _ q => q) (fun c q => by rw [zr (y0 q hn)]; exact q) fun c xs q => by rw [zr (y0 q hn)]; exact q
  exact I2.call' (ch := fp) J.os un hok J.bare fun b hb => by
    obtain ⟨f0, f1, f3, f4, f5, f6⟩ := f2 b hb;exact ⟨f4, f1, f5, f6⟩
theorem zb6 {E : Value -> Shared -> Prop} {tg elt iter : Expr} {ifs : List Expr} {pos : Pos} {it : Addr} {tn : Nat -> Heap -> Prop} {J : It} {g : Dyn -> TG} {tt : Dyn -> TT} {te : Dyn -> TE} {RR : Value -> Addr -> Result -> Shared -> Prop} {cl0 : List (Str × Addr)} {Fin : List V -> Hp -> Prop}
    (I2 : Inv X pins σ H2 s₂) (hc : X.calm = true) (T : Turn X.prog X.w X.K tg J fp it tn) (st : tn 0 s₂.heap) (f2 : ∀ b ∈ fp, FpOk X pins H2 b) (hkind : scope.kind = .function) (hown : ka scope.names = true) (hfree : u5 scope.names X.env = true) (hout : wp scope.names N2 X.N = true)
    (hcl1 : ∀ x c, cl0.lookup x = some c -> X.env.cells.lookup x = some c) (hcl2 : ∀ y ∈ scope.names, y.2 = .free -> ∃ c, cl0.lookup y.1 = some c)
    (hg : ∀ d, PG (yo X scope (ts ++ N2) d) tg (g d)) (ht : ∀ d, PTs (yo X scope (ts ++ N2) d) ifs (tt d)) (he : ∀ d, PE (yo X scope (ts ++ N2) d) elt (te d))
    (hW : ∀ d, sy J σ ts.length (g d) (tt d) (te d) H2 Fin)
    (hRR : ∀ D C s' H' ys, s₂.heap.objs.size <= C -> C ≠ D -> Inv X pins σ (upd H' D (.lst ys)) s' -> H' D = none -> H' C = none -> (∃ m, s'.heap.Ns C m) -> ys.length <= sizeLine -> Fin ys H' -> RR (.ref D) C (.ok .next) s') :
    wpAny (model X.prog X.w) X.A (newList []) (fun acc s₃ => wpAny (model X.prog X.w) X.A (newFunctionEnv scope X.env.globals cl0 [] X.env.qual none .none (some X.env)) (fun cenv s₄ =>
      codeAny (model X.prog X.w) X.A (.compStart (.ListComp elt [⟨tg, iter, ifs, 0⟩] scope pos) 0 (.ref it) acc { cenv with scope := relabel scope X.env }) (RR acc cenv.locals) s₄) E s₃) E s₂ := by
  refine wpAny_newObj_type (zb8 fun hns₁ hold₁ => ?_);dsimp only at hns₁ hold₁ ⊢;generalize hH2 : s₂.heap.push { cls := .type "list", dict := none, data := .seq ([] : List Value).toArray } = HP at hns₁ hold₁ ⊢;have hC : HP.objs.size = s₂.heap.objs.size + 1 := by rw [<- hH2, Heap.size_push]
  have hDC : s₂.heap.objs.size ≠ HP.objs.size := by rw [hC]; exact Zs (Yz _)
  have hCle : s₂.heap.objs.size <= HP.objs.size := by rw [hC]; exact Yx _
  have below : ∀ b, b < s₂.heap.objs.size -> b ≠ HP.objs.size /\ b ≠ s₂.heap.objs.size := fun b hb => ⟨by rw [hC]; exact Zs (Yg hb), Zs hb⟩
  have hlow : ∀ x c, cl0.lookup x = some c -> c < s₂.heap.objs.size := fun x c e => by
    obtain ⟨v, q⟩ := I2.cell x c (hcl1 x c e);exact q.lt
  have cinv := qy (cl := cl0) (lo := HP.objs.size + 1) scope.names (HP.push { cls := .type "dict", data := .dict #[] }) cl0 (by rw [Heap.size_push]; exact Zm _)
    ⟨fun x c e => .inl ⟨e, Yg (Zh (hlow x c e) hCle)⟩, fun x y c e1 e2 => I2.ok.inj x y c (hcl1 _ _ e1) (hcl1 _ _ e2)⟩
  rw [Heap.size_push] at cinv
  have hcl : ClOk X s₂ scope (cellsFrom (HP.objs.size + 1) scope.names cl0) HP.objs.size s₂.heap.objs.size := by
    refine ⟨cinv.inj, fun x c e => ?_, fun y hy hf => ?_, fun y hy hk => ?_, fun x c hk e => ?_⟩
    . rcases cinv.get x c e with ⟨z, _⟩ | ⟨z, _⟩
      . exact .inl (hcl1 x c z)
      . exact .inr ⟨Zd hCle (Nat.le_of_succ_le z), ZR z, ZR (Ym hCle z)⟩
    . obtain ⟨c, e⟩ := hcl2 y hy hf
      refine ⟨c, ?_, hcl1 _ _ e⟩;rw [sd (zd2 hown hy hf)];exact e
    . exact Ys.mp (PySem.W.cellsFrom_some _ _ _ (.inl (qd hown hy hk)))
    . exact ph (.inl (PySem.mem_of_lookup hk)) (YQ hCle) e
  have hnew : ∀ x c, (cellsFrom (HP.objs.size + 1) scope.names cl0).lookup x = some c -> s₂.heap.objs.size <= c -> ∃ v, (pushCells (HP.push { cls := .type "dict", data := .dict #[] }) scope.names).IsCell c v := fun x c e hle => by
    rcases cinv.get x c e with ⟨z, _⟩ | ⟨_, z⟩
    . exact absurd (hlow x c z) (ZD.mpr hle)
    . exact ⟨_, z⟩
  generalize hh₁ : pushCells (HP.push { cls := .type "dict", data := .dict #[] }) scope.names = h₁ at *;generalize cellsFrom (HP.objs.size + 1) scope.names cl0 = cl at *;have old : ∀ b o, s₂.heap.get? b = some o -> h₁.get? b = some o := fun b o e => hold₁ b o (hH2 ▸ Heap.get?_push_of_some _ e)
  have hacc : h₁.get? s₂.heap.objs.size = some (lobj []) := hold₁ _ _ (hH2 ▸ Heap.get?_push_size _ rfl)
  have flt : ∀ b ∈ fp, b < s₂.heap.objs.size := fun b hb => by
    obtain ⟨o, e, _⟩ := T.obj _ _ st b hb;exact Heap.lt_size e
  generalize hDD : s₂.heap.objs.size = D at *;generalize hCC : HP.objs.size = C at *;have hDle : s₂.heap.objs.size <= D := Nat.le_of_eq hDD;have I4 := fun (tk : Nat) => zb7 (ts := ts) (D := D) (C := C) (tk := tk) I2 hc (fun b hb => ⟨f2 b hb, by rw [hDD]; exact flt b hb⟩) hkind hown hfree hout hcl (by rw [hDD]; exact hCle) hDC hDle hns₁ old hacc (by rw [hDD]; exact hnew)
  generalize hd : (⟨cl, C, s₂, H2, fp⟩ : Dyn) = d at *;obtain ⟨W, ⟨m0, w0⟩, turn⟩ := hW d
  have Xs : ∀ {pl : List (Addr × Obj)} {H' : Hp}, (∀ b ∈ fp, H' b = none) -> (∀ p ∈ pl, p.1 = D) -> ∀ b ∈ fp, FpOk (yo X scope (ts ++ N2) d) pl H' b := fun {pl H'} hn hp b hb => by
    subst hd;obtain ⟨f0, f1, f3, f4, f5, f6⟩ := f2 b hb;refine ⟨hn b hb, (below b (flt b hb)).1, fun z => ?_, .inl hb, fun x c e => (hcl.old x c e).elim (f5 x c) fun z => ZR (Zh (flt b hb) (hDD ▸ z.1)), fun p hp' => ?_⟩
    . rcases ZK.mp (I2.stkSub b z) with z | z
      . exact f1 z
      . exact f3 z
    . rw [hp p (by simpa using hp')]
      exact Ne.symm (below b (flt b hb)).2
  have loop : ∀ s₃ : Shared, s₃ = { s₂ with heap := h₁ } ->
      codeAny (model X.prog X.w) X.A (.compLoop (.ListComp elt [⟨tg, iter, ifs, 0⟩] scope pos) 0 (.ref it) (.ref D) (compEnvC scope cl C X.env)) (RR (.ref D) C) s₃ := by
    rintro s₃ rfl
    refine gf (fun n s' => ∃ i ys H' its, Inv (yo X scope (ts ++ N2) d) [(D, lobj its)] (List.replicate ts.length none ++ σ) H' s' /\ tn i s'.heap /\ (∀ b ∈ fp, H' b = none) /\ Vals ys its /\ W i n ys H') ?_ m0
      ⟨0, [], H2, [], I4 _, T.keep _ _ _ st fun b _ o e => old b o e, fun b hb => (f2 b hb).1, .nil, w0⟩
    rintro n s3 ⟨i, ys, H3, its, I3, st3, fr3, hv3, w3⟩
    obtain ⟨hlen, tr⟩ := turn i n ys H3 w3
    have one : ∀ p ∈ [(D, lobj its)], p.1 = D := fun p hp => by
      have e : p = (D, lobj its) := by simpa using hp
      rw [e]
    have eenv : (yo X scope (ts ++ N2) d).env = compEnvC scope cl C X.env := by subst hd; rfl
    rcases tr with ⟨stop, fin⟩ | ⟨go, N, hN, step⟩
    . refine thn (T.done (yo X scope (ts ++ N2) d) rfl rfl rfl rfl i _ s3 _ H3 (fun _ _ => False) I3 (Xs fr3 one) st3 stop) fun r s4 ⟨hr, J4⟩ => ?_
      subst hr
      show RR (.ref D) C (.ok .next) s4
      obtain ⟨pe, pn, _⟩ := J4.pin (D, lobj its) (by simp);have fC : H3 C = none := by have := J4.free; rw [eenv] at this; exact this
      have nC : ∃ m, s4.heap.Ns C m := by
        obtain ⟨m, z, _⟩ := J4.loc;rw [eenv] at z;exact ⟨m, z⟩
      subst hd;exact hRR D C s4 H3 ys hCle (Ne.symm hDC) (zgd I2 f2 hDle J4 pe pn hv3 hlen) pn fC nC hlen fin
    . refine thn (T.item (yo X scope (ts ++ N2) d) rfl rfl rfl rfl i _ s3 _ H3 (fun _ _ => False) I3 (Xs fr3 one) st3 go) fun r s4 ⟨u, hr, h4⟩ => ?_
      subst hr;refine thn h4 fun _ s5 ⟨x, H5, I5, r5, y5, st5, fr5⟩ => ?_
      have I5' := I5.pinned (Xs fr5 one) (T.obj _ _ st5);rw [<- eenv];refine thn (hg d _ s5 _ H5 x u _ I5' r5 (step x H5 y5)) fun _ s6 ⟨σ6, H6, I6, hdrop, q6⟩ => ?_
      have back : ∀ {ys' : List V} {its' : List Value} {H' : Hp} {s' : Shared} {pl : List (Addr × Obj)}, Inv (yo X scope (ts ++ N2) d) ([(D, lobj its')] ++ pl) σ6 H' s' -> Inv (yo X scope (ts ++ N2) d) [(D, lobj its')] (List.replicate ts.length none ++ σ) H' s' := fun {ys' its' H' s' pl} I' => by
        have hl : σ6.length = (ts ++ N2).length := I'.len;refine (I'.pins_of (pins' := [(D, lobj its')]) fun p hp => I'.pin p (Zu _ (ZV _ hp))).weak ?_ ?_
        . rw [hl]; exact I3.len
        . intro j v e
          by_cases hj : j < ts.length
          . rw [Zg (by simpa using hj), Yc] at e
            split at e <;> cases e
          . have hj' : ts.length <= j := ZD.mp hj
            rw [Zf (by simpa using hj'), ZI, <- hdrop, Yu] at e;rw [show ts.length + (j - ts.length) = j by omega] at e;exact e
      refine thn (ht d _ s6 σ6 H6 _ I6 q6) fun b s7 ⟨H7, I7, q7⟩ => ?_
      have pinsOf : ∀ {its' : List Value} {H' : Hp} {s' : Shared}, Inv (yo X scope (ts ++ N2) d) ([(D, lobj its')] ++ ll fp s5.heap) σ6 H' s' -> (∀ b ∈ fp, ∀ o, s5.heap.get? b = some o -> s'.heap.get? b = some o) /\ ∀ b ∈ fp, H' b = none := fun {its' H' s'} I' => by
        refine ⟨fun b hb o e => (I'.pin (b, o) (Zu _ (Zu _ (vj hb e)))).1, fun b hb => ?_⟩;obtain ⟨o, e, _⟩ := T.obj _ _ st5 b hb;exact (I'.pin (b, o) (Zu _ (Zu _ (vj hb e)))).2.1
      cases b with
      | false =>
        have q7' : N ys H7 := by simpa using q7
        obtain ⟨m', hm, w7⟩ := hN _ _ q7';obtain ⟨k1, k2⟩ := pinsOf I7
        show ∃ m, m < n /\ _
        exact ⟨m', hm, i + 1, ys, H7, its, back (ys' := ys) I7, T.keep _ _ _ st5 k1, k2, hv3, w7⟩
      | true =>
        have q7' : te d σ6 H7 fun v H4 => N (ys ++ [v]) H4 := by simpa using q7
        show wpAny _ _ _ _ _ _
        refine thn (he d _ s7 σ6 H7 _ I7 q7') fun y s8 ⟨v, H8, I8, r8, n8⟩ => ?_
        obtain ⟨m', hm, w8⟩ := hN _ _ n8;obtain ⟨k1, k2⟩ := pinsOf I8;obtain ⟨pe, pn, pC, pf, pd⟩ := I8.pin (D, lobj its) (by simp);have hsz : its.toArray.size <= sizeLine := by rw [Zr, <- hv3.length]; exact hlen
        refine append_at (hsz := hsz) pe fun h9 sb9 e9 => ?_
        have J8 : Inv (yo X scope (ts ++ N2) d) [] σ6 H8 s8 := I8.pins_of fun p hp => nomatch hp
        have hDs : (yo X scope (ts ++ N2) d).s₀.heap.objs.size <= D := by subst hd; exact hDle
        have J9 : Inv (yo X scope (ts ++ N2) d) [] σ6 H8 { s8 with heap := h9 } := J8.turned (t' := s8.toks) (it := D) (fun b o hb e => sb9.extBut b o hb e) pn pC (.inr hDs)
          (fun x c e => by
            subst hd
            rcases hcl.old x c e with z | z
            . obtain ⟨v2, z2⟩ := I2.cell x c z
              exact Zs (Zh z2.lt hDle)
            . exact z.2.2) (fun p hp => nomatch hp)
        have e9' : h9.get? D = some (lobj (its ++ [y])) := by
          rw [e9]
          show some ({ cls := .type "list", data := .seq (its.toArray.push y) (its.length + 1) } : Obj) = some { cls := .type "list", data := .seq (its ++ [y]).toArray (its ++ [y]).length }
          rw [Zo, Yo, List.push_toArray]
        have J9' : Inv (yo X scope (ts ++ N2) d) ([(D, lobj (its ++ [y]))] ++ []) σ6 H8 { s8 with heap := h9 } := J9.pins_of fun p hp => by
          have e : p = (D, lobj (its ++ [y])) := by simpa using hp
          subst e;exact ⟨e9', pn, pC, pf, fun v z => by cases z⟩
        refine ⟨m', hm, i + 1, ys ++ [v], H8, its ++ [y], back (ys' := ys) J9', ?_, k2, hv3.append (.cons r8 .nil), w8⟩;exact T.keep _ _ _ st5 fun b hb o e => sb9.extBut b o (below b (flt b hb)).2 (k1 b hb o e)
  exact codeAny_compStart_list (loop _ rfl) (T.self _ 0 _ _ _ (T.keep _ _ _ st fun b _ o e => old b o e) (loop _ rfl))
end
theorem zhs {X : Cx} {tg elt iter : Expr} {ifs : List Expr} {scope : Scope} {pos : Pos} (ts N2 : List Str) {wi : TI} {g : Dyn -> TG} {tt : Dyn -> TT} {te : Dyn -> TE} (hc : X.calm = true) (hi : PI X tg iter wi)
    (hg : ∀ d, PG (yo X scope (ts ++ N2) d) tg (g d)) (ht : ∀ d, PTs (yo X scope (ts ++ N2) d) ifs (tt d)) (he : ∀ d, PE (yo X scope (ts ++ N2) d) elt (te d))
    (hkind : scope.kind = .function) (hown : ka scope.names = true) (hfree : u5 scope.names X.env = true) (hout : wp scope.names N2 X.N = true)
    (hs : ∀ x, foldedSetIterable iter X.env x = pure x := by intro _; rfl) : PE X (.ListComp elt [⟨tg, iter, ifs, 0⟩] scope pos) (al ts.length wi g tt te) := by
  intro pins s σ H Q I h;obtain ⟨cl, hclos, hcl1, hcl2⟩ := kd (scope := scope) (env := X.env) fun y hy hf => I.ok.has y.1 (rb hfree hy hf)
  rw [eval_ListComp];refine wpAny_comprehension_free (use := none) rfl hs hclos hkind (fun y hy e => qd hown hy e) (thn (hi pins s σ H _ I h) fun v s1 h1 => thn h1 fun itv s2 h2 => ?_);obtain ⟨it, fp, tn, J, H2, e, I2, T, st2, f2, hW⟩ := h2;subst e;refine zb6 (RR := fun acc C => compPost (model X.prog X.w) X.A X.xe none (EP X pins σ Q) acc C) I2 hc T st2 f2 hkind hown hfree hout hcl1 hcl2 hg ht he hW ?_;intro D C s' H' ys hC hCD I' hD hCn hNs hl fin;obtain ⟨m, hm⟩ := hNs;refine ⟨m, hm, fun h' sb => ?_⟩
  have I'' : Inv X pins σ (upd H' D (.lst ys)) { s' with heap := h' } := by
    refine I'.turned (t' := s'.toks) (it := C) (fun b o hb e => sb.extBut b o hb e) (by rw [zr hCD]; exact hCn) (ZR (Zh I2.lt hC)) (.inr (Zd I2.sz hC)) (fun x c e => ?_) fun p hp => ?_
    . obtain ⟨v, q⟩ := I2.cell x c e
      exact Zs (Zh q.lt hC)
    . exact Zs (Zh (Heap.lt_size (I2.pin p hp).1) hC)
  exact ⟨.ref D, _, I'', rfl, fin D hD⟩
end L2
namespace L2
open PySem PySem.Spec PyProof.Rows
theorem e_dg1 {td ty : TE} {σ : St} {H : Hp} {Q : VK} : tDGet1 td ty σ H Q = td σ H fun x H1 => ∃ a, x = .ref a /\ IsD H1 a /\ ty σ H1 fun y H2 => ∃ o, DGet H2 a y o /\ Q (o.getD .non) H2 := rfl
theorem e_dg2 {td ty tx : TE} {σ : St} {H : Hp} {Q : VK} : tDGet2 td ty tx σ H Q = td σ H fun x H1 => ∃ a, x = .ref a /\ IsD H1 a /\ ty σ H1 fun y H2 => tx σ H2 fun z H3 => ∃ o, DGet H3 a y o /\ Q (o.getD z) H3 := rfl
end L2
namespace L2
open PySem PySem.Spec PyProof.Rows
section
variable {X : Cx}
def rNeI (K : Fg) (x y : V) (H : Hp) (Q : VK) : Prop := ∃ a b xs, x = .ref a /\ y = .ref b /\ SqL K H a xs /\ SqL K H b xs /\ (∀ v ∈ xs, ∃ t, v = V.ref t) /\ Q (.bl false) H
theorem e_neI {K : Fg} {x y : V} {H : Hp} {Q : VK} : rNeI K x y H Q = ∃ a b xs, x = .ref a /\ y = .ref b /\ SqL K H a xs /\ SqL K H b xs /\ (∀ v ∈ xs, ∃ t, v = V.ref t) /\ Q (.bl false) H := rfl
end
end L2
namespace L2
open PySem PySem.Spec PyProof.Rows
section
variable {M : Model} {A : Around} {E : Value -> Shared -> Prop} {s : Shared}
end
section
variable {X : Cx} {pins : List (Addr × Obj)} {σ : St} {H : Hp} {s : Shared}
end
section
variable {X : Cx} {pins : List (Addr × Obj)} {σ : St} {H2 : Hp} {s₂ : Shared} {scope : Scope} {ts N2 : List Str} {cl : List (Str × Addr)} {C D : Addr} {fp : List Addr}
end
end L2
namespace L2
open PySem PySem.Spec PyProof.Rows
section
variable {X : Cx}
def rSplit : V -> List V -> Hp -> VK -> Prop := fun x vs H Q => ∃ z y, x = .str z /\ vs = [.str y] /\ (y.length == 0) = false /\ z.length <= sizeLine /\ (Txt.split z y).length <= sizeLine /\ ∀ l, H l = none -> Q (.ref l) (upd H l (.lst ((Txt.split z y).map V.str)))
theorem zi8 {x : V} {vs : List V} {H : Hp} {Q : VK} : rSplit x vs H Q = ∃ z y, x = .str z /\ vs = [.str y] /\ (y.length == 0) = false /\ z.length <= sizeLine /\ (Txt.split z y).length <= sizeLine /\ ∀ l, H l = none -> Q (.ref l) (upd H l (.lst ((Txt.split z y).map V.str))) := rfl
end
end L2
namespace L2
open PySem PySem.Spec PyProof.Rows
theorem zig {c : TT} {tb : TS} {D : Ends} {σ : St} {H : Hp} : tWhile c tb D σ H = ∃ W : Nat -> St -> Hp -> Prop, (∃ m, W m σ H) /\ ∀ m σ H, W m σ H ->
  c σ H fun b H1 => if b = true then ∃ N : St -> Hp -> Prop, (∀ σ' H', N σ' H' -> ∃ m', m' < m /\ W m' σ' H') /\ tb { D with nx := N, ct := N, bk := D.nx } σ H1 else D.nx σ H1 := rfl
end L2
namespace L2
open PySem PySem.Spec PyProof.Rows
def tGlT (K : Fg) (xs : List V) : TE := fun _ H Q => ∀ p, SqT K H p xs -> Q (.ref p) H
theorem e_glT {K : Fg} {xs : List V} {σ : St} {H : Hp} {Q : VK} : tGlT K xs σ H Q = ∀ p, SqT K H p xs -> Q (.ref p) H := rfl
end L2
namespace L2
open PySem PySem.Spec PyProof.Rows
def rIntS (xs : List V) (H : Hp) (Q : VK) : Prop := ∃ (x : Str) (n : Int), xs = [.str x] /\ PySem.intText? x = some n /\ x.length <= 640 /\ Q (.int n) H
theorem e_intS {xs : List V} {H : Hp} {Q : VK} : rIntS xs H Q = ∃ (x : Str) (n : Int), xs = [.str x] /\ PySem.intText? x = some n /\ x.length <= 640 /\ Q (.int n) H := rfl
section
variable {X : Cx}
end
section
variable {a b c d t e u : TS} {tc : TT} {D : Ends} {σ : L2.St} {H : Hp}
end
end L2
namespace Mine
open PySem PySem.Spec PyProof.Rows L2
theorem ym {α β : Type} {g : α -> β} {xs : List α} {i : Nat} {x : β} (h : (xs.map g)[i]? = some x) : ∃ y, xs[i]? = some y /\ g y = x := by
  rw [Ze] at h
  cases e : xs[i]? with
  | none => rw [e] at h; cases h
  | some y => rw [e] at h; cases h; exact ⟨y, rfl, rfl⟩
def zd := And.intro @e_intS (And.intro @e_var (And.intro @e_C (And.intro @e_op (And.intro @e_un (And.intro @e_rI (And.intro @e_rI0 (And.intro @e_rU (And.intro @e_rEq (And.intro @e_rNe (And.intro @e_ixL (And.intro @e_ixT (And.intro @e_set (And.intro @e_cat (And.intro @e_test (And.intro @e_B (And.intro @e_and (And.intro @e_or (And.intro @e_not (And.intro @e_andV (And.intro @e_orV (And.intro @e_notV (And.intro @e_ifE (And.intro @e_all (And.intro @e_next (And.intro @e_seq (And.intro @e_brk (And.intro @e_cnt (And.intro @e_drop (And.intro @e_ret (And.intro @e_retN (And.intro @e_ifS (And.intro @e_asg (And.intro @ziu (And.intro @e_setC (And.intro @e_augS (And.intro @e_ipI (And.intro @e_nil (And.intro @e_cons (And.intro @e_tup (And.intro @e_lst (And.intro @e_call (And.intro @e_CB (And.intro @e_BM (And.intro @e_app (And.intro @e_rng1 (And.intro @e_rng2 (And.intro @e_iL (And.intro @e_for (And.intro @e_comp (And.intro @cxK (And.intro @e_zip (And.intro @e_gTup (And.intro @e_gNil (And.intro @zi4 (And.intro @e_rep (And.intro @e_gSub (And.intro @e_slL (And.intro @e_tSl (And.intro @zhj (And.intro @e_part (And.intro @e_rng3 (And.intro @ziz (And.intro @e_pop (And.intro @e_BM0 (And.intro @zir (And.intro @e_in (And.intro @e_enum (And.intro @e_minK (And.intro @ziw (And.intro @zh8 (And.intro @zhx (And.intro @e_try0 (And.intro @suK (And.intro @noxK (And.intro @tryK (And.intro @e_eqD (And.intro @e_inD (And.intro @e_iStr (And.intro @e_mulS (And.intro @e_ixS (And.intro @e_join (And.intro @e_rev (And.intro @zin (And.intro @zi2 (And.intro @e_iT (And.intro @e_iSeq (And.intro @e_tupL (And.intro @e_disp (And.intro @zg7 (And.intro @zh4 (And.intro @e_minL (And.intro @e_maxL (And.intro @zge (And.intro @zfl (And.intro @zgx (And.intro @e_leS (And.intro @e_vI0 (And.intro @e_vI (And.intro @e_ints (And.intro @e_isB (And.intro @e_catH (And.intro @zgy (And.intro @e_rngD (And.intro @e_slH (And.intro @e_slT (And.intro @zgz (And.intro @zg3 (And.intro @e_inK (And.intro @e_setD (And.intro @zi0 (And.intro @e_dget (And.intro @e_zip3 (And.intro @e_zip2 (And.intro @e_BMT (And.intro @ziv (And.intro @e_maxK (And.intro @zi9 (And.intro @e_eqK (And.intro @zg1 (And.intro @e_dg1 (And.intro @e_dg2 (And.intro @e_neI (And.intro @zi8 (And.intro @zig (@e_glT)))))))))))))))))))))))))))))))))))))))))))))))))))))))))))))))))))))))))))))))))))))))))))))))))))))))))))))))))))))))))))))
def ze := And.intro @ZL.{0} (And.intro @ZZ.{0} (And.intro @Nat.zero_add (And.intro @YM.{0} (And.intro @List.replicate_zero.{0} (And.intro @List.drop_succ_cons.{0} (And.intro @List.drop_zero.{0} (And.intro @Int.zero_add (And.intro @List.getElem?_cons_zero.{0} (And.intro @Yw.{0} (And.intro @List.set_cons_zero.{0} (And.intro @List.set_cons_succ.{0} (And.intro @Option.some.injEq.{0} (And.intro @V.int.injEq (And.intro @V.ref.injEq (And.intro @V.bl.injEq (And.intro @V.ty.injEq (And.intro @V.str.injEq (And.intro @List.cons.injEq.{0} (And.intro @Ye.{0} (And.intro @List.cons_append.{0} (And.intro @List.nil_append.{0} (And.intro @exists_eq.{1} (And.intro @exists_eq'.{1} (And.intro @exists_eq_left.{1} (And.intro @exists_eq_left'.{1} (And.intro @exists_and_left.{1} (And.intro @exists_and_right.{1} (And.intro @and_assoc (And.intro @true_and (@and_true))))))))))))))))))))))))))))))
def top (i : Nat) : Stmt := PySem.Challenge.pw_trueword_k56_best_is_payable.main.body.getD i (.Pass ⟨0, 0, 0, 0⟩)
abbrev om : Stmt := top 7
theorem zcc : zn ["thing"] ["thing"] (zi om) := ⟨rfl, rfl, rfl, by decide +kernel, rfl, by decide +kernel, by decide +kernel⟩
abbrev se : Stmt := top 8
theorem b7 : zn ["thing"] ["thing"] (zi se) := ⟨rfl, rfl, rfl, by decide +kernel, rfl, by decide +kernel, by decide +kernel⟩
abbrev tj : Stmt := top 9
theorem cg : zn ["thing", "width"] ["thing", "width"] (zi tj) := ⟨rfl, rfl, rfl, by decide +kernel, rfl, by decide +kernel, by decide +kernel⟩
abbrev d4 : Stmt := top 10
theorem zi6 : zn ["grid", "s", "t"] ["grid", "s", "t"] (zi d4) := ⟨rfl, rfl, rfl, by decide +kernel, rfl, by decide +kernel, by decide +kernel⟩
abbrev dh : Stmt := top 11
theorem zi5 : zn ["grid", "pays", "t", "s"] ["grid", "pays", "t", "s"] (zi dh) := ⟨rfl, rfl, rfl, by decide +kernel, rfl, by decide +kernel, by decide +kernel⟩
abbrev sw : Stmt := top 12
theorem sc_first_gain : zn ["grid", "pays", "t", "s", "more"] ["grid", "pays"] (zi sw) := ⟨rfl, rfl, rfl, by decide +kernel, rfl, by decide +kernel, by decide +kernel⟩
abbrev mh : Stmt := top 18
theorem zes : zn ["thing"] ["thing"] (zi mh) := ⟨rfl, rfl, rfl, by decide +kernel, rfl, by decide +kernel, by decide +kernel⟩
abbrev qf : Stmt := top 19
theorem zbo : zn ["thing", "most"] ["thing", "most"] (zi qf) := ⟨rfl, rfl, rfl, by decide +kernel, rfl, by decide +kernel, by decide +kernel⟩
abbrev s9 : Stmt := top 20
theorem aa : zn ["thing", "height", "width"] ["thing", "height", "width"] (zi s9) := ⟨rfl, rfl, rfl, by decide +kernel, rfl, by decide +kernel, by decide +kernel⟩
abbrev my : Stmt := top 21
theorem zeu : zn ["thing", "width"] ["thing", "width"] (zi my) := ⟨rfl, rfl, rfl, by decide +kernel, rfl, by decide +kernel, by decide +kernel⟩
abbrev mf : Stmt := top 22
theorem zep : zn ["hand"] ["hand"] (zi mf) := ⟨rfl, rfl, rfl, by decide +kernel, rfl, by decide +kernel, by decide +kernel⟩
abbrev p0 : Stmt := top 23
theorem zb9 : zn ["hands"] ["hands"] (zi p0) := ⟨rfl, rfl, rfl, by decide +kernel, rfl, by decide +kernel, by decide +kernel⟩
abbrev w4 : Stmt := top 24
theorem oz : zn ["hand"] ["hand"] (zi w4) := ⟨rfl, rfl, rfl, by decide +kernel, rfl, by decide +kernel, by decide +kernel⟩
abbrev wm : Stmt := top 25
theorem pj : zn ["hand"] ["hand"] (zi wm) := ⟨rfl, rfl, rfl, by decide +kernel, rfl, by decide +kernel, by decide +kernel⟩
abbrev qh : Stmt := top 26
theorem zbj : zn ["hand", "word"] ["hand", "word"] (zi qh) := ⟨rfl, rfl, rfl, by decide +kernel, rfl, by decide +kernel, by decide +kernel⟩
abbrev ub : Stmt := top 27
theorem sc_count_of_rows : zn ["hands", "count", "hand"] ["hands"] (zi ub) := ⟨rfl, rfl, rfl, by decide +kernel, rfl, by decide +kernel, by decide +kernel⟩
abbrev u8 : Stmt := top 28
theorem cf : zn ["outcomes", "hands"] ["outcomes", "hands"] (zi u8) := ⟨rfl, rfl, rfl, by decide +kernel, rfl, by decide +kernel, by decide +kernel⟩
abbrev qi : Stmt := top 29
theorem sc_kept_hand : zn ["hand", "worths"] ["hand"] (zi qi) := ⟨rfl, rfl, rfl, by decide +kernel, rfl, by decide +kernel, by decide +kernel⟩
abbrev p9 : Stmt := top 30
theorem zce : zn ["outcomes", "hands"] ["outcomes", "hands"] (zi p9) := ⟨rfl, rfl, rfl, by decide +kernel, rfl, by decide +kernel, by decide +kernel⟩
abbrev u9 : Stmt := top 31
theorem cr : zn ["house"] ["house"] (zi u9) := ⟨rfl, rfl, rfl, by decide +kernel, rfl, by decide +kernel, by decide +kernel⟩
abbrev pk : Stmt := top 32
theorem zcm : zn ["house"] ["house"] (zi pk) := ⟨rfl, rfl, rfl, by decide +kernel, rfl, by decide +kernel, by decide +kernel⟩
abbrev qc : Stmt := top 33
theorem sc_with_each : zn ["rows", "words", "longer", "row"] ["rows", "words"] (zi qc) := ⟨rfl, rfl, rfl, by decide +kernel, rfl, by decide +kernel, by decide +kernel⟩
abbrev r6 : Stmt := top 34
theorem sc_rows_over : zn ["hands", "rows", "hand"] ["hands"] (zi r6) := ⟨rfl, rfl, rfl, by decide +kernel, rfl, by decide +kernel, by decide +kernel⟩
abbrev mm : Stmt := top 35
theorem zd9 : zn ["house"] ["house"] (zi mm) := ⟨rfl, rfl, rfl, by decide +kernel, rfl, by decide +kernel, by decide +kernel⟩
abbrev n0 : Stmt := top 36
theorem zek : zn ["things", "k"] ["things", "k"] (zi n0) := ⟨rfl, rfl, rfl, by decide +kernel, rfl, by decide +kernel, by decide +kernel⟩
abbrev qo : Stmt := top 37
theorem zap : zn ["house", "k"] ["house", "k"] (zi qo) := ⟨rfl, rfl, rfl, by decide +kernel, rfl, by decide +kernel, by decide +kernel⟩
abbrev oj : Stmt := top 38
theorem zbw : zn ["others", "k", "word"] ["others", "k", "word"] (zi oj) := ⟨rfl, rfl, rfl, by decide +kernel, rfl, by decide +kernel, by decide +kernel⟩
abbrev oq : Stmt := top 40
theorem zb2 : zn ["walk"] ["walk"] (zi oq) := ⟨rfl, rfl, rfl, by decide +kernel, rfl, by decide +kernel, by decide +kernel⟩
abbrev oa : Stmt := top 41
theorem zcl : zn ["walk"] ["walk"] (zi oa) := ⟨rfl, rfl, rfl, by decide +kernel, rfl, by decide +kernel, by decide +kernel⟩
abbrev wv : Stmt := top 42
theorem ki : zn ["grid", "s"] ["grid", "s"] (zi wv) := ⟨rfl, rfl, rfl, by decide +kernel, rfl, by decide +kernel, by decide +kernel⟩
abbrev sh : Stmt := top 43
theorem sc_least_to : zn ["grid", "walks", "t", "longer"] ["grid", "walks", "t"] (zi sh) := ⟨rfl, rfl, rfl, by decide +kernel, rfl, by decide +kernel, by decide +kernel⟩
abbrev uc : Stmt := top 44
theorem jl : zn ["grid", "walks"] ["grid", "walks"] (zi uc) := ⟨rfl, rfl, rfl, by decide +kernel, rfl, by decide +kernel, by decide +kernel⟩
abbrev uo : Stmt := top 45
theorem dn : zn ["grid", "totals", "t"] ["grid", "totals", "t"] (zi uo) := ⟨rfl, rfl, rfl, by decide +kernel, rfl, by decide +kernel, by decide +kernel⟩
abbrev sj : Stmt := top 46
theorem sc_has_honest : zn ["grid", "totals", "size"] ["grid"] (zi sj) := ⟨rfl, rfl, rfl, by decide +kernel, rfl, by decide +kernel, by decide +kernel⟩
abbrev ww : Stmt := top 47
theorem sc_closed_below_zero : zn ["rows", "s", "walks"] ["rows"] (zi ww) := ⟨rfl, rfl, rfl, by decide +kernel, rfl, by decide +kernel, by decide +kernel⟩
abbrev eg : Stmt := top 48
theorem sc_ring : zn ["grid", "rows", "size", "found"] ["grid"] (zi eg) := ⟨rfl, rfl, rfl, by decide +kernel, rfl, by decide +kernel, by decide +kernel⟩
abbrev u6 : Stmt := top 50
theorem cb : zn ["grid"] ["grid"] (zi u6) := ⟨rfl, rfl, rfl, by decide +kernel, rfl, by decide +kernel, by decide +kernel⟩
abbrev je : Stmt := top 51
theorem zfe : zn ["walk", "longer"] ["walk", "longer"] (zi je) := ⟨rfl, rfl, rfl, by decide +kernel, rfl, by decide +kernel, by decide +kernel⟩
abbrev tm : Stmt := top 52
theorem sc_least_roads : zn ["grid", "walks", "size"] ["grid", "walks"] (zi tm) := ⟨rfl, rfl, rfl, by decide +kernel, rfl, by decide +kernel, by decide +kernel⟩
abbrev ou : Stmt := top 54
theorem sc_greatest : zn ["grid", "walks"] ["grid"] (zi ou) := ⟨rfl, rfl, rfl, by decide +kernel, rfl, by decide +kernel, by decide +kernel⟩
abbrev uv : Stmt := top 56
theorem sc_dealt_places : zn ["house", "table", "k", "others", "rows"] ["house", "table", "k", "others"] (zi uv) := ⟨rfl, rfl, rfl, by decide +kernel, rfl, by decide +kernel, by decide +kernel⟩
abbrev qj : Stmt := top 57
theorem zas : zn ["worths", "places"] ["worths", "places"] (zi qj) := ⟨rfl, rfl, rfl, by decide +kernel, rfl, by decide +kernel, by decide +kernel⟩
abbrev mn : Stmt := top 58
theorem sc_grid_of : zn ["house", "table", "k", "others", "places"] ["house", "table", "k", "others"] (zi mn) := ⟨rfl, rfl, rfl, by decide +kernel, rfl, by decide +kernel, by decide +kernel⟩
abbrev on : Stmt := top 60
theorem sc_grids_of : zn ["house", "table", "grids", "k"] ["house", "table"] (zi on) := ⟨rfl, rfl, rfl, by decide +kernel, rfl, by decide +kernel, by decide +kernel⟩
abbrev ik : Stmt := top 61
theorem sc_paper : zn ["k", "others", "grid", "told"] ["k", "others", "grid"] (zi ik) := ⟨rfl, rfl, rfl, by decide +kernel, rfl, by decide +kernel, by decide +kernel⟩
abbrev mr : Stmt := top 62
theorem sc_verdict : zn ["house", "table", "papers", "k", "others", "grid", "found"] ["house", "table"] (zi mr) := ⟨rfl, rfl, rfl, by decide +kernel, rfl, by decide +kernel, by decide +kernel⟩
abbrev u7 : Stmt := top 64
theorem ce : zn ["house", "thing"] ["house", "thing"] (zi u7) := ⟨rfl, rfl, rfl, by decide +kernel, rfl, by decide +kernel, by decide +kernel⟩
abbrev v7 : Stmt := top 65
theorem g8 : zn ["house", "thing"] ["house", "thing"] (zi v7) := ⟨rfl, rfl, rfl, by decide +kernel, rfl, by decide +kernel, by decide +kernel⟩
abbrev vi : Stmt := top 66
theorem i5 : zn ["house", "weights", "handicaps"] ["house", "weights", "handicaps"] (zi vi) := ⟨rfl, rfl, rfl, by decide +kernel, rfl, by decide +kernel, by decide +kernel⟩
abbrev md : Stmt := top 67
theorem zeq : zn ["hand", "weight", "word"] ["hand", "weight", "word"] (zi md) := ⟨rfl, rfl, rfl, by decide +kernel, rfl, by decide +kernel, by decide +kernel⟩
abbrev px : Stmt := top 68
theorem zcj : zn ["house", "weights", "row"] ["house", "weights", "row"] (zi px) := ⟨rfl, rfl, rfl, by decide +kernel, rfl, by decide +kernel, by decide +kernel⟩
abbrev kz : Stmt := top 69
theorem sc_scores : zn ["house", "weights", "handicaps", "row", "totals", "part"] ["house", "weights", "handicaps", "row"] (zi kz) := ⟨rfl, rfl, rfl, by decide +kernel, rfl, by decide +kernel, by decide +kernel⟩
abbrev sk : Stmt := top 70
theorem aj : zn ["totals"] ["totals"] (zi sk) := ⟨rfl, rfl, rfl, by decide +kernel, rfl, by decide +kernel, by decide +kernel⟩
abbrev uw : Stmt := top 71
theorem fv : zn ["house", "weights", "handicaps", "row"] ["house", "weights", "handicaps", "row"] (zi uw) := ⟨rfl, rfl, rfl, by decide +kernel, rfl, by decide +kernel, by decide +kernel⟩
abbrev sf : Stmt := top 72
theorem b8 : zn ["house", "weights", "handicaps"] ["house", "weights", "handicaps"] (zi sf) := ⟨rfl, rfl, rfl, by decide +kernel, rfl, by decide +kernel, by decide +kernel⟩
abbrev p7 : Stmt := top 74
theorem zb5 : zn ["script", "k"] ["script", "k"] (zi p7) := ⟨rfl, rfl, rfl, by decide +kernel, rfl, by decide +kernel, by decide +kernel⟩
abbrev ra : Stmt := top 75
theorem ad : zn ["cell", "top"] ["cell", "top"] (zi ra) := ⟨rfl, rfl, rfl, by decide +kernel, rfl, by decide +kernel, by decide +kernel⟩
abbrev yh : Stmt := top 76
theorem sc_law_names : zn ["cell", "many", "letters", "other", "names", "k", "sign", "head"] ["cell", "many"] (zi yh) := ⟨rfl, rfl, rfl, by decide +kernel, rfl, by decide +kernel, by decide +kernel⟩
abbrev qe : Stmt := top 77
theorem sc_law_hands : zn ["script", "places", "top", "many", "called", "hands", "spot", "k", "size", "worths", "t"] ["script", "places", "top"] (zi qe) := ⟨rfl, rfl, rfl, by decide +kernel, rfl, by decide +kernel, by decide +kernel⟩
abbrev oo : Stmt := top 78
theorem sc_law_rows : zn ["hands", "rows", "hand", "longer_ones", "row", "word"] ["hands"] (zi oo) := ⟨rfl, rfl, rfl, by decide +kernel, rfl, by decide +kernel, by decide +kernel⟩
abbrev tf : Stmt := top 80
theorem d7 : zn ["script", "many"] ["script", "many"] (zi tf) := ⟨rfl, rfl, rfl, by decide +kernel, rfl, by decide +kernel, by decide +kernel⟩
abbrev v9 : Stmt := top 81
theorem fe : zn ["script", "places"] ["script", "places"] (zi v9) := ⟨rfl, rfl, rfl, by decide +kernel, rfl, by decide +kernel, by decide +kernel⟩
abbrev su : Stmt := top 83
theorem sc_law_column : zn ["hands", "outcomes", "table", "k", "others", "places"] ["hands", "outcomes", "table", "k", "others"] (zi su) := ⟨rfl, rfl, rfl, by decide +kernel, rfl, by decide +kernel, by decide +kernel⟩
abbrev oi : Stmt := top 84
theorem sc_law_fits : zn ["grid", "pays", "t", "s", "more"] ["grid", "pays"] (zi oi) := ⟨rfl, rfl, rfl, by decide +kernel, rfl, by decide +kernel, by decide +kernel⟩
abbrev i0 : Stmt := top 85
theorem sc_law : zn ["script", "places", "hands", "outcomes", "house", "table", "found", "due", "k", "others", "one"] ["script"] (zi i0) := ⟨rfl, rfl, rfl, by decide +kernel, rfl, by decide +kernel, by decide +kernel⟩
structure Bt (mg : Str -> Option Value) : Prop where
  «abs» : mg "abs" = none
  «all» : mg "all" = none
  «bool» : mg "bool" = none
  «dict» : mg "dict" = none
  «enumerate» : mg "enumerate" = none
  «int» : mg "int" = none
  «isinstance» : mg "isinstance" = none
  «len» : mg "len" = none
  «list» : mg "list" = none
  «max» : mg "max" = none
  «min» : mg "min" = none
  «range» : mg "range" = none
  «set» : mg "set" = none
  «str» : mg "str" = none
  «tuple» : mg "tuple" = none
  «zip» : mg "zip" = none
  k_MOST_WORDS : ∃ t, mg "MOST_WORDS" = some (Value.int 8 t)
  k_MOST_LETTERS : ∃ t, mg "MOST_LETTERS" = some (Value.int 8 t)
  k_MOST_OUTCOMES : ∃ t, mg "MOST_OUTCOMES" = some (Value.int 8 t)
  k_MOST_HANDS : ∃ t, mg "MOST_HANDS" = some (Value.int 4 t)
  k_MOST_ROWS : ∃ t, mg "MOST_ROWS" = some (Value.int 256 t)
structure Ad where
  NoHouse : Addr
  NoPays : Addr
  NoWeight : Addr
structure Ct (K : Fg) (mg : Str -> Option Value) (a : Ad) : Prop where
  m_NoHouse : mg "NoHouse" = some (.ref a.NoHouse)
  q_NoHouse : ErrQ K a.NoHouse
  m_NoPays : mg "NoPays" = some (.ref a.NoPays)
  q_NoPays : ErrQ K a.NoPays
  m_NoWeight : mg "NoWeight" = some (.ref a.NoWeight)
  q_NoWeight : ErrQ K a.NoWeight
structure NewGrid (H H' : Hp) (b : Addr) (bs : List Addr) (rows : List (List Int)) (k n : Nat) : Prop where
  same : Same H H'
  nb : H b = none
  nr : ∀ r ∈ bs, H r = none
  nd : bs.Nodup
  ne : b ∉ bs
  at' : H' b = some (.lst (bs.map V.ref))
  lb : bs.length = k
  lr : rows.length = k
  row : ∀ (i : Nat) (r : Addr) (ns : List Int), bs[i]? = some r -> rows[i]? = some ns -> H' r = some (.lst (ns.map V.int)) /\ ns.length = n
theorem Same.upd {H H' : Hp} (s : Same H H') {a : Addr} {o : HO} (n : H a = none) : Same H (upd H' a o) := fun b u e => by
  rw [zr (y0 e n)]; exact s b u e
theorem NewGrid.nil {H H' : Hp} {b : Addr} {n : Nat} (s : Same H H') (nb : H' b = none) : NewGrid H (upd H' b (.lst [])) b [] [] 0 n :=
  ⟨Same.upd s (s.free nb), s.free nb, (fun _ z => nomatch z), YN, (fun z => nomatch z), zf, rfl, rfl, (fun i r ns e => by simp at e)⟩
theorem NewGrid.laid {H H' : Hp} {b c : Addr} {bs : List Addr} {rows : List (List Int)} {k n : Nat} {o : HO} (g : NewGrid H H' b bs rows k n) (nc : H' c = none) : NewGrid H (L2.upd H' c o) b bs rows k n :=
  ⟨Same.upd g.same (g.same.free nc), g.nb, g.nr, g.nd, g.ne, by rw [zr (y0 g.at' nc)]; exact g.at', g.lb, g.lr, fun i r ns e1 e2 => by
    obtain ⟨q, l⟩ := g.row i r ns e1 e2
    exact ⟨by rw [zr (y0 q nc)]; exact q, l⟩⟩
theorem NewGrid.snoc {H H' : Hp} {b c : Addr} {bs : List Addr} {rows : List (List Int)} {k n : Nat} {ns : List Int} (g : NewGrid H H' b bs rows k n) (hn : H c = none) (hc : H' c = some (.lst (ns.map V.int))) (hl : ns.length = n) (hb : c ∉ bs) (hcb : c ≠ b) :
    NewGrid H (L2.upd H' b (.lst (bs.map V.ref ++ [.ref c]))) b (bs ++ [c]) (rows ++ [ns]) (k + 1) n := by
  refine ⟨Same.upd g.same g.nb, g.nb, fun r hr => ?_, ?_, ?_, ?_, by rw [Zo, g.lb]; rfl, by rw [Zo, g.lr]; rfl, fun i r ms e1 e2 => ?_⟩
  . rcases ZH.mp hr with z | z
    . exact g.nr r z
    . rw [ZC.mp z]; exact hn
  . refine Yh.mpr ⟨g.nd, by simp, fun x hx y hy => ?_⟩
    rw [ZC.mp hy]
    rintro rfl
    exact hb hx
  . intro z
    rcases ZH.mp z with z | z
    . exact g.ne z
    . exact hcb (ZC.mp z).symm
  . rw [zf, Zn]; rfl
  . have nb' : ∀ r, r ∈ bs ++ [c] -> r ≠ b := fun r hr => by
      rcases ZH.mp hr with z | z
      . rintro rfl; exact g.ne z
      . rw [ZC.mp z]; exact hcb
    have hr : r ∈ bs ++ [c] := Zi e1;rw [zr (nb' r hr)]
    by_cases hi : i < bs.length
    . rw [Zg hi] at e1
      rw [Zg (by rw [g.lr, <- g.lb]; exact hi)] at e2;exact g.row i r ms e1 e2
    . have hi' : bs.length <= i := ZD.mp hi
      rw [Zf hi'] at e1;rw [Zf (by rw [g.lr, <- g.lb]; exact hi')] at e2
      have e0 : i - bs.length = 0 := by
        have := (Zc.mp e1).1;simp at this; omega
      rw [e0] at e1;have e0' : i - rows.length = 0 := by rw [g.lr, <- g.lb]; exact e0
      rw [e0'] at e2;simp at e1 e2;subst e1 e2;exact ⟨hc, hl⟩
theorem zaa {K : Fg} {H : Hp} {g : Addr} {as : List Addr} {rows : List (List Int)} (G : GridL K H g as rows) {t : Nat} {ns : List Int} (h : rows[t]? = some ns) :
    ∃ r, atI (as.map V.ref) (t : Int) = some (V.ref r) /\ SqL K H r (ns.map V.int) := by
  have ht : t < as.length := by rw [G.2.1]; exact (Zc.mp h).1
  have e : as[t]? = some as[t] := by simp [ht]
  exact ⟨as[t], ya (by rw [Ze, e]; rfl), G.2.2 t _ ns e h⟩
theorem vg {ns : List Int} {t : Nat} {x : Int} (h : ns[t]? = some x) : atI (ns.map V.int) (t : Int) = some (V.int x) := ya (by rw [Ze, h]; rfl)
theorem GridL.mono {K : Fg} {H H' : Hp} {g : Addr} {as : List Addr} {rows : List (List Int)} (S : Same H H') (G : GridL K H g as rows) : GridL K H' g as rows := ⟨S.seq G.1, G.2.1, fun i r ns e1 e2 => S.seq (G.2.2 i r ns e1 e2)⟩
theorem vk {bs : List Addr} {i : Nat} {x : V} (hx : (bs.map V.ref)[i]? = some x) : ∃ r, bs[i]? = some r /\ x = V.ref r := by
  rw [Ze] at hx
  cases e : bs[i]? with
  | none => rw [e] at hx; cases hx
  | some r => rw [e] at hx; cases hx; exact ⟨r, rfl, rfl⟩
theorem a8 {ms : List Int} {i : Nat} {x : V} (hx : (ms.map V.int)[i]? = some x) : ∃ r, ms[i]? = some r /\ x = V.int r := by
  rw [Ze] at hx
  cases e : ms[i]? with
  | none => rw [e] at hx; cases hx
  | some r => rw [e] at hx; cases hx; exact ⟨r, rfl, rfl⟩
def z9 (ns : List Int) (k : Nat) : Int := ns.getD k 0
def letA (i : Int) : Nat := 97 + (i % 26).toNat
def nu (K : Fg) : Sp := fun vs H Q _ => ∃ (a : Addr) (ns : List Int) (k : Nat), vs = [.ref a, .int k] /\ SqL K H a (ns.map V.int) /\ Q (.int (z9 ns k)) H
theorem xw (z : Str) (n : Nat) : (xq z n).length = z.length * n := by
  unfold xq Str.length;simp [List.length_flatten, Nat.mul_comm]
theorem uy (y z : Str) : (y ++ z).length = y.length + z.length := by
  show (y.cps ++ z.cps).size = _
  simp [Str.length]
theorem zan {i : Int} (h0 : 0 <= i) (h1 : i < 26) : atI (Str.ofString "abcdefghijklmnopqrstuvwxyz").cps.toList i = some (97 + i.toNat) := by
  have h : ∀ j : Fin 26, (Str.ofString "abcdefghijklmnopqrstuvwxyz").cps.toList[j.val]? = some (97 + j.val) := by decide +kernel
  have := ya (xs := (Str.ofString "abcdefghijklmnopqrstuvwxyz").cps.toList) (j := i.toNat) (v := 97 + i.toNat) (h ⟨i.toNat, by omega⟩)
  rwa [Int.toNat_of_nonneg h0] at this
section
variable {P : Program} {w : World} {K : Fg} {mg : Str -> Option Value} {base : Heap}
end
section
variable {P : Program} {w : World} {K : Fg} {mg : Str -> Option Value} {base : Heap}
end
structure HX where
  t : Addr
  w : Addr
  g : Addr
  gs : List Addr
def HX.adr (x : HX) : List Addr := x.t :: x.w :: x.g :: x.gs
structure HD where
  name : Str
  words : List Str
  worths : List (List Int)
structure HandAt (H : Hp) (x : HX) (d : HD) : Prop where
  tup : H x.t = some (.tup [.str d.name, .ref x.w, .ref x.g])
  words : H x.w = some (.lst (d.words.map V.str))
  grid : H x.g = some (.lst (x.gs.map V.ref))
  len : x.gs.length = d.worths.length
  row : ∀ (i : Nat) (r : Addr) (ns : List Int), x.gs[i]? = some r -> d.worths[i]? = some ns -> H r = some (.lst (ns.map V.int))
theorem HandAt.mono {H H' : Hp} {x : HX} {d : HD} (S : Same H H') (h : HandAt H x d) : HandAt H' x d :=
  ⟨S _ _ h.tup, S _ _ h.words, S _ _ h.grid, h.len, fun i r ns e1 e2 => S _ _ (h.row i r ns e1 e2)⟩
def adrs (xs : List HX) : List Addr := (xs.map HX.adr).flatten
structure NewHands (H H' : Hp) (b : Addr) (xs : List HX) (ds : List HD) : Prop where
  same : Same H H'
  nb : H b = none
  at' : H' b = some (.lst (xs.map fun x => V.ref x.t))
  len : xs.length = ds.length
  hand : ∀ (i : Nat) (x : HX) (d : HD), xs[i]? = some x -> ds[i]? = some d -> HandAt H' x d
  new : ∀ y ∈ adrs xs, H y = none
  old : ∀ y ∈ adrs xs, H' y ≠ none
  nd : (adrs xs).Nodup
  ne : b ∉ adrs xs
theorem NewHands.nil {H H' : Hp} {b : Addr} (s : Same H H') (nb : H' b = none) : NewHands H (upd H' b (.lst [])) b [] [] :=
  ⟨Same.upd s (s.free nb), s.free nb, zf, rfl, (fun i x d e => by simp at e), (fun y z => nomatch z), (fun y z => nomatch z), YN, (fun z => nomatch z)⟩
theorem NewHands.more {H H' H2 : Hp} {b : Addr} {xs : List HX} {ds : List HD} (g : NewHands H H' b xs ds) (S : Same H' H2) : NewHands H H2 b xs ds :=
  ⟨g.same.trans S, g.nb, S _ _ g.at', g.len, fun i x d e1 e2 => (g.hand i x d e1 e2).mono S, g.new, fun y hy => by
    cases e : H' y with
    | none => exact absurd e (g.old y hy)
    | some o => rw [S _ _ e]; simp, g.nd, g.ne⟩
theorem NewHands.snoc {H H' : Hp} {b : Addr} {xs : List HX} {ds : List HD} {x : HX} {d : HD} (g : NewHands H H' b xs ds) (h : HandAt H' x d) (hn : ∀ y ∈ x.adr, H y = none) (hx : x.adr.Nodup) (ho : ∀ y ∈ x.adr, y ∉ adrs xs) (hb : b ∉ x.adr) :
    NewHands H (upd H' b (.lst (xs.map (fun x => V.ref x.t) ++ [.ref x.t]))) b (xs ++ [x]) (ds ++ [d]) := by
  have ap : adrs (xs ++ [x]) = adrs xs ++ x.adr := by simp [adrs]
  have keep : ∀ y o, y ≠ b -> H' y = some o -> upd H' b (.lst (xs.map (fun x => V.ref x.t) ++ [.ref x.t])) y = some o := fun y o e q => by rw [zr e]; exact q
  have hand' : ∀ {z : HX} {e : HD}, HandAt H' z e -> b ∉ z.adr -> HandAt (upd H' b (.lst (xs.map (fun x => V.ref x.t) ++ [.ref x.t]))) z e := fun {z e} q nb => by
    have n : ∀ y ∈ z.adr, y ≠ b := fun y hy e => nb (e ▸ hy)
    exact ⟨keep _ _ (n _ (by simp [HX.adr])) q.tup, keep _ _ (n _ (by simp [HX.adr])) q.words, keep _ _ (n _ (by simp [HX.adr])) q.grid, q.len, fun i r ns e1 e2 => keep _ _ (n _ (by simp [HX.adr, Zi e1])) (q.row i r ns e1 e2)⟩
  refine ⟨Same.upd g.same g.nb, g.nb, by rw [zf]; simp, by simp [g.len], fun i z e e1 e2 => ?_, fun y hy => ?_, fun y hy => ?_, ?_, ?_⟩
  . by_cases hi : i < xs.length
    . rw [Zg hi] at e1
      rw [Zg (by rw [<- g.len]; exact hi)] at e2;refine hand' (g.hand i z e e1 e2) fun q => g.ne ?_
      exact YB.mpr ⟨_, Zp.mpr ⟨z, Zi e1, rfl⟩, q⟩
    . rw [Zf (ZD.mp hi)] at e1
      rw [Zf (by rw [<- g.len]; exact ZD.mp hi)] at e2
      have e0 : i - xs.length = 0 := by
        have := (Zc.mp e1).1;simp at this; omega
      rw [e0] at e1;rw [<- g.len, e0] at e2;simp at e1 e2;subst e1 e2;exact hand' h hb
  . rw [ap] at hy
    rcases ZH.mp hy with z | z
    . exact g.new y z
    . exact hn y z
  . rw [ap] at hy
    have hyb : y ≠ b := fun e => by
      rcases ZH.mp hy with z | z
      . exact g.ne (e ▸ z)
      . exact hb (e ▸ z)
    rw [zr hyb]
    rcases ZH.mp hy with z | z
    . exact g.old y z
    . rcases ZK.mp z with e | z
      . rw [e, h.tup]; simp
      rcases ZK.mp z with e | z
      . rw [e, h.words]; simp
      rcases ZK.mp z with e | z
      . rw [e, h.grid]; simp
      . obtain ⟨i, hi, rfl⟩ := Zy z
        have e1 : x.gs[i]? = some x.gs[i] := by simp [hi]
        have hi2 : i < d.worths.length := by rw [<- h.len]; exact hi
        have e2 : d.worths[i]? = some d.worths[i] := by simp [hi2]
        rw [h.row i _ _ e1 e2]; simp
  . rw [ap]
    refine Yh.mpr ⟨g.nd, hx, fun y hy z hz e => ?_⟩;exact ho z hz (e ▸ hy)
  . rw [ap]
    intro z
    rcases ZH.mp z with z | z
    . exact g.ne z
    . exact hb z
theorem y4 (a : Int) {n : Int} (h : 0 < n) : 0 <= a % n /\ a % n < n := ⟨YI _ (by omega), Yl _ h⟩
section
variable {P : Program} {w : World} {K : Fg} {mg : Str -> Option Value} {base : Heap}
end
def og (z : Str) : Prop := 1 <= z.length /\ z.length <= 8 /\ ∀ c ∈ z.cps.toList, 97 <= c /\ c <= 122
theorem zim (i : Int) : 97 <= letA i /\ letA i <= 122 := by
  have := y4 i (show (0 : Int) < 26 by decide);unfold letA; omega
theorem k8 {z : Str} {n c : Nat} (h : c ∈ (xq z n).cps.toList) : c ∈ z.cps.toList := by
  unfold xq at h;simp only [List.toList_toArray, YB] at h;obtain ⟨l, h1, h2⟩ := h;rw [(List.mem_replicate.mp h1).2] at h2;exact h2
theorem ge {y z : Str} {c : Nat} (h : c ∈ (y ++ z).cps.toList) : c ∈ y.cps.toList \/ c ∈ z.cps.toList := by
  have : (y ++ z).cps.toList = y.cps.toList ++ z.cps.toList := by
    show (y.cps ++ z.cps).toList = _
    simp
  rw [this] at h;exact ZH.mp h
theorem zil {x y : Str} {n : Nat} {a b : Nat} (f : Str) (h : xq f n ++ chr1 a ++ x = xq f n ++ chr1 b ++ y) : a = b := by
  have h1 : (xq f n ++ chr1 a ++ x).cps.toList = (xq f n ++ chr1 b ++ y).cps.toList := by rw [h]
  have e : ∀ (z : Str) (a : Nat), (xq f n ++ chr1 a ++ z).cps.toList = (xq f n).cps.toList ++ ([a] ++ z.cps.toList) := fun z a => by
    show (((xq f n).cps ++ (chr1 a).cps) ++ z.cps).toList = _
    simp [chr1]
  rw [e, e] at h1;have := List.append_cancel_left h1;simp at this;exact this.1
def strT (z : Str) : Tr := .lf (.str z)
structure HandsL (H : Hp) (b : Addr) (xs : List HX) (ds : List HD) : Prop where
  at' : H b = some (.lst (xs.map fun x => V.ref x.t))
  len : xs.length = ds.length
  hand : ∀ (i : Nat) (x : HX) (d : HD), xs[i]? = some x -> ds[i]? = some d -> HandAt H x d
theorem NewHands.lists {H H' : Hp} {b : Addr} {xs : List HX} {ds : List HD} (g : NewHands H H' b xs ds) : HandsL H' b xs ds := ⟨g.at', g.len, g.hand⟩
theorem HandsL.mono {H H' : Hp} {b : Addr} {xs : List HX} {ds : List HD} (S : Same H H') (g : HandsL H b xs ds) : HandsL H' b xs ds := ⟨S _ _ g.at', g.len, fun i x d e1 e2 => (g.hand i x d e1 e2).mono S⟩
theorem zdt {K : Fg} {H : Hp} : ∀ (zs : List Str), TrsAt K H (zs.map strT) (zs.map V.str)
  | [] => TrsAt.nil
  | z :: zs => TrsAt.cons (TrAt.lf rfl) (zdt zs)
theorem ba : ∀ (zs : List Str), va (zs.map strT) = 0
  | [] => by rw [Yt, va]
  | z :: zs => by rw [ZM, va, ba zs, strT, deep]; rfl
theorem zd7 (zs : List Str) : ve (zs.map strT) = true := kg fun t ht => by
  obtain ⟨z, _, rfl⟩ := Zp.mp ht;rw [strT, ud]
section
variable {P : Program} {w : World} {K : Fg} {mg : Str -> Option Value} {base : Heap}
end
mutual
def tups : Tr -> Bool
  | .lf _ => true
  | .ls _ => false
  | .tp ts => tupss ts
def tupss : List Tr -> Bool
  | [] => true
  | t :: ts => tups t && tupss ts
end
structure GoodHouse (outs : List Str) (ds : List HD) : Prop where
  outs1 : 1 <= outs.length /\ outs.length <= 8
  outsG : ∀ z ∈ outs, og z
  outsD : outs.Nodup
  hands : 1 <= ds.length /\ ds.length <= 4
  handsG : ∀ d ∈ ds, og d.name
  handsD : (ds.map HD.name).Nodup
  words1 : ∀ d ∈ ds, 1 <= d.words.length /\ d.words.length <= 8
  wordsG : ∀ d ∈ ds, ∀ z ∈ d.words, og z
  wordsD : ∀ d ∈ ds, d.words.Nodup
  rows : ∀ d ∈ ds, d.worths.length = d.words.length
  cols : ∀ d ∈ ds, ∀ r ∈ d.worths, r.length = outs.length
  nums : ∀ d ∈ ds, ∀ r ∈ d.worths, ∀ n ∈ r, -(10 ^ 60) < n /\ n < 10 ^ 60
  few : (ds.map fun d => d.words.length).prod <= 256
theorem ziq {n t : Nat} : ∀ {l : List Nat}, (∀ x ∈ l, x <= t) -> l.length = n -> l.prod <= t ^ n := by
  induction n with
  | zero => intro l _ hl; rw [Yi.mp hl]; simp
  | succ n ih =>
    intro l h hl
    match l, hl with
    | x :: l, hl =>
      rw [List.prod_cons, Nat.pow_succ, Nat.mul_comm];exact YO (ih (fun y hy => h y (Zv _ hy)) (by simpa using hl)) (h x ZA)
def x9 (i : Int) : Prop := -(10 ^ 60) < i /\ i < 10 ^ 60
def zgb : Sp := fun vs H Q _ => ∃ i : Int, vs = [.int i] /\ Q (.bl true) H
def zez : Sp := fun vs H Q _ => ∃ i : Int, vs = [.int i] /\ x9 i /\ Q (.bl true) H
def qRow : Sp := fun vs H Q _ => ∃ (r : Addr) (ns : List Int) (n : Nat), vs = [.ref r, .int n] /\ H r = some (.lst (ns.map V.int)) /\ ns.length = n /\ n <= 8 /\ (∀ i ∈ ns, x9 i) /\ ∀ H', Same H H' -> Q (.bl true) H'
def zdx : Sp := fun vs H Q _ => ∃ z : Str, vs = [.str z] /\ og z /\ ∀ H', Same H H' -> Q (.bl true) H'
def zaz : Sp := fun vs H Q _ => ∃ (l : Addr) (zs : List Str) (m : Nat), vs = [.ref l, .int m] /\ H l = some (.lst (zs.map V.str)) /\ 1 <= zs.length /\ zs.length <= m /\ m <= 8 /\ (∀ z ∈ zs, og z) /\ zs.Nodup /\ ∀ H', Same H H' -> Q (.bl true) H'
def zdu : Sp := fun vs H Q _ => ∃ (g : Addr) (gs : List Addr) (rows : List (List Int)) (h n : Nat), vs = [.ref g, .int h, .int n] /\ H g = some (.lst (gs.map V.ref)) /\ gs.length = h /\ rows.length = h /\ h <= 8 /\ n <= 8 /\ (∀ (i : Nat) (r : Addr) (ns : List Int), gs[i]? = some r -> rows[i]? = some ns -> H r = some (.lst (ns.map V.int))) /\
  (∀ r ∈ rows, r.length = n /\ ∀ i ∈ r, x9 i) /\ ∀ H', Same H H' -> Q (.bl true) H'
structure GoodD (d : HD) (n : Nat) : Prop where
  name : og d.name
  words : 1 <= d.words.length /\ d.words.length <= 8
  wordsG : ∀ z ∈ d.words, og z
  wordsD : d.words.Nodup
  rows : d.worths.length = d.words.length
  cols : ∀ r ∈ d.worths, r.length = n /\ ∀ i ∈ r, x9 i
theorem GoodHouse.hand {outs : List Str} {ds : List HD} (g : GoodHouse outs ds) {d : HD} (h : d ∈ ds) : GoodD d outs.length :=
  ⟨g.handsG d h, g.words1 d h, g.wordsG d h, g.wordsD d h, g.rows d h, fun r hr => ⟨g.cols d h r hr, fun i hi => g.nums d h r hr i hi⟩⟩
def qHand : Sp := fun vs H Q _ => ∃ (x : HX) (d : HD) (n : Nat), vs = [.ref x.t, .int n] /\ HandAt H x d /\ GoodD d n /\ n <= 8 /\ ∀ H', Same H H' -> Q (.bl true) H'
def ma (f : HX -> HD -> V) : Sp := fun vs H Q _ => ∃ (x : HX) (d : HD), vs = [.ref x.t] /\ HandAt H x d /\ Q (f x d) H
def zfg : Sp := fun vs H Q _ => ∃ (b : Addr) (xs : List HX) (ds : List HD), vs = [.ref b] /\ HandsL H b xs ds /\ (∀ d ∈ ds, d.words.length <= 8) /\ ds.length <= 4 /\ Q (.int ((ds.map fun d => d.words.length).prod : Nat)) H
def zev : Sp := fun vs H Q _ => ∃ (o b : Addr) (outs : List Str) (xs : List HX) (ds : List HD), vs = [.ref o, .ref b] /\ H o = some (.lst (outs.map V.str)) /\ HandsL H b xs ds /\ GoodHouse outs ds /\ ∀ H', Same H H' -> Q (.bl true) H'
def allT (n : Nat) : List Bool := List.replicate n true
def PvAT (H : Hp) (i : Nat) (ys : List V) (H' : Hp) : Prop := Same H H' /\ ys = (allT i).map V.bl
theorem tz (n : Nat) : (allT n).map V.bl ++ [V.bl true] = (allT (n + 1)).map V.bl := by
  rw [allT, allT, List.replicate_succ', Zn]; rfl
theorem rh (n : Nat) : (allT n).all id = true := by
  rw [ZQ];intro x hx;exact List.eq_of_mem_replicate hx
theorem rn (n : Nat) : ((allT n).map V.bl).length = n := by rw [Za, allT, ZI]
theorem zdl {zs : List Str} (hd : zs.Nodup) : ∀ i, i <= zs.length -> seen (fun j => zs.getD j ⟨#[]⟩) i = zs.take i
  | 0, _ => rfl
  | i + 1, h => by
    have ih := zdl hd i (by omega);have hi : i < zs.length := by omega
    have e : zs.getD i ⟨#[]⟩ = zs[i] := by simp [Zk, hi]
    show (if zs.getD i ⟨#[]⟩ ∈ seen (fun j => zs.getD j ⟨#[]⟩) i then _ else seen (fun j => zs.getD j ⟨#[]⟩) i ++ [zs.getD i ⟨#[]⟩]) = _
    rw [ih, e, if_neg, Zq]
    . simp [hi]
    . intro hm
      obtain ⟨j, hj, ej⟩ := Zy hm;rw [Zj] at hj;rw [List.getElem_take] at ej;have := (Yy hd).mp ej;omega
theorem zh1 : kit0 "str" "str" = some true := by decide +kernel
theorem ip : kit0 "list" "list" = some true := by decide +kernel
theorem zc4 : kit0 "tuple" "tuple" = some true := by decide +kernel
theorem zif : kit0 "int" "int" = some true := by decide +kernel
theorem zhv : kit0 "int" "bool" = some false := by decide +kernel
theorem zh7 {c : Nat} (h1 : 97 <= c) (h2 : c <= 122) : (!decide ((chr1 c).cps.toList < (Str.ofString "a").cps.toList)) = true /\ (!decide ((Str.ofString "z").cps.toList < (chr1 c).cps.toList)) = true := by
  have ea : (Str.ofString "a").cps.toList = [97] := by decide +kernel
  have ez : (Str.ofString "z").cps.toList = [122] := by decide +kernel
  have ec : (chr1 c).cps.toList = [c] := rfl;rw [ea, ez, ec]
  constructor
  . rw [decide_eq_false]
    . rfl
    . intro z
      rw [List.cons_lt_cons_iff] at z
      rcases z with z | ⟨_, z⟩
      . omega
      . exact absurd z (by simp)
  . rw [decide_eq_false]
    . rfl
    . intro z
      rw [List.cons_lt_cons_iff] at z
      rcases z with z | ⟨_, z⟩
      . omega
      . exact absurd z (by simp)
def PvNm (H : Hp) (ds : List HD) (i : Nat) (ys : List V) (H' : Hp) : Prop := H' = H /\ ys = ((ds.take i).map HD.name).map V.str
def PvCt (H : Hp) (b : Addr) (ds : List HD) (i : Nat) (σ : L2.St) (H4 : Hp) : Prop := H4 = H /\ ∃ v, σ = [some (.ref b), some (.int (((ds.take i).map fun d => d.words.length).prod : Nat)), v]
section
variable {P : Program} {w : World} {K : Fg} {mg : Str -> Option Value} {base : Heap} {a : Ad}
theorem ku (B : Bt mg) (D : zc K mg "is_whole" om ["thing"]) : FnAt P w K mg base "is_whole" 1 ["thing"] zgb := by
  refine FnAt.of D zcc (fun vs H Q E h => ?_) (fun f cdv A outer s H vs Q E hr h => ?_)
  . obtain ⟨x, rfl, _⟩ := h
    rfl
  . obtain ⟨x, rfl, q⟩ := h
    refine ⟨_, (@zg _ _ _ (@zl _ _ _ _ (@o8 _ _ _ _ _ _ _ (zq x0 rfl B.isinstance xh (za (pv 0) (za (p6 rfl B.int bt_int) (@zb _)))) (@l9 _ _ _ _ _ (@pe_not _ _ _ _ (zq x0 rfl B.isinstance xh (za (pv 0) (za (p6 rfl B.bool zio) (@zb _))))))))), ?_⟩;rw [show start ["thing"] [V.int x] = [some (V.int x)] from rfl];simp only [zd, ze, ↓reduceIte];exact ⟨_, .int _, true, zif, iteT ⟨_, .int _, false, zhv, q⟩⟩
theorem nt (B : Bt mg) (ku : FnAt P w K mg base "is_whole" 1 ["thing"] zgb) (D : zc K mg "is_bounded" se ["thing"]) : FnAt P w K mg base "is_bounded" 2 ["thing"] zez := by
  refine FnAt.of D b7 (fun vs H Q E h => ?_) (fun f cdv A outer s H vs Q E hr h => ?_)
  . obtain ⟨x, rfl, _⟩ := h
    rfl
  . obtain ⟨x, rfl, g, q⟩ := h
    refine ⟨_, (@zg _ _ _ (@zl _ _ _ _ (@o8 _ _ _ _ _ _ _ (zh ku (hr.mono (by decide)) rfl (za (pv 0) (@zb _))) (@l9 _ _ _ _ _ (@l6 _ _ _ _ _ _ _ _ ao (zq za4 rfl B.abs zga (za (pv 0) (@zb _))) (@zp _ _ _ _ _ _ _ _ l5 (@zj _ _ _ _) (@zj _ _ _ _)) (yu _)))))), ?_⟩;rw [show start ["thing"] [V.int x] = [some (V.int x)] from rfl];simp only [zd, ze, ↓reduceIte];refine ⟨x, rfl, _, rfl, iteT ⟨⟨by decide, by decide, by decide⟩, ?_⟩⟩;rw [decide_eq_true]
    . exact q
    . have h1 := g.1
      have h2 := g.2
      show _ < (10 : Int) ^ 60
      split <;> omega
theorem wb (B : Bt mg) (nt : FnAt P w K mg base "is_bounded" 2 ["thing"] zez) (D : zc K mg "is_grid_row" tj ["thing", "width"]) : FnAt P w K mg base "is_grid_row" 3 ["thing", "width"] qRow := by
  refine FnAt.of D cg (fun vs H Q E h => ?_) (fun f cdv A outer s H vs Q E hr h => ?_)
  . obtain ⟨r, ns, n, rfl, _⟩ := h
    rfl
  . obtain ⟨r, ns, n, rfl, hr1, ln, n8, hg, q⟩ := h
    refine ⟨_, (@zk _ _ _ _ _ (@y9 _ _ _ _ _ _ _ _ (PW.pt (@mx _ _ _ _ _ _ _ (@wn _ _ _ _ (w5 (zq x0 rfl B.isinstance xh (za (pv 0) (za (p6 rfl B.list rg) (@zb _)))))) (@nk _ _ _ _ (@y6 _ _ _ _ _ _ _ _ fq (zq zt rfl B.len yi (za (pv 0) (@zb _))) (pv 1) (yu _))))) (@zg _ _ _ (@zl _ _ _ _ (@v8 _ _ _ _))) (@yg _)) (@zg _ _ _ (@zl _ _ _ _ (zq (t9 rfl) rfl B.all lq (za (z0 ["worth"] ["thing", "width"] rfl (@z8 _ _ _ _ (pv 0)) (fun _ => (zm (i := 0) (show (["worth", "thing", "width"] : List Str).Nodup by decide +kernel) rfl (Or.inl rfl))) (fun _ => (@zy _)) (fun _ => (zh nt (hr.mono (by decide)) rfl (za (pv 0) (@zb _)))) rfl (by decide +kernel) rfl rfl) (@zb _)))))), ?_⟩;rw [show start ["thing", "width"] [V.ref r, V.int n] = [some (V.ref r), some (V.int n)] from rfl];simp only [zd, ze, ↓reduceIte];refine ⟨_, .lst hr1, true, ip, iteF ⟨_, .inl (.of hr1), rfl, ?_⟩⟩;rw [Za, ln];refine iu rfl ⟨⟨_, .of hr1⟩, fun d => ?_⟩;refine yb (xs := ns.map V.int) (PvAT H) ⟨Same.refl _, rfl⟩ ?_ ?_ ?_
    . rintro i ys H2 hi ⟨S, rfl⟩
      rw [Za] at hi;exact ⟨by rw [rn]; exact Zd hi (Zd (show ns.length <= 8 by omega) (by decide)), S.seq (.of hr1)⟩
    . rintro i x ys H2 hx ⟨S, rfl⟩
      obtain ⟨y, hy, rfl⟩ := ym hx;simp only [zd, ze, ↓reduceIte];exact ⟨y, rfl, hg y (Zi hy), S, tz i⟩
    . rintro ys H2 ⟨S, rfl⟩ l hl
      refine ⟨_, .of zf, ?_⟩;rw [rh];exact q _ (S.trans (Same.upd (Same.refl _) hl))
theorem qr (B : Bt mg) (D : zc K mg "is_name" mh ["thing"]) : FnAt P w K mg base "is_name" 1 ["thing"] zdx := by
  refine FnAt.of D zes (fun vs H Q E h => ?_) (fun f cdv A outer s H vs Q E hr h => ?_)
  . obtain ⟨x, rfl, _⟩ := h
    rfl
  . obtain ⟨z, rfl, g, q⟩ := h
    refine ⟨_, (@zk _ _ _ _ _ (@y9 _ _ _ _ _ _ _ _ (PW.pt (@mx _ _ _ _ _ _ _ (@wn _ _ _ _ (w5 (zq x0 rfl B.isinstance xh (za (pv 0) (za (p6 rfl B.str bt_str) (@zb _)))))) (@nk _ _ _ _ (@wn _ _ _ _ (za6 e8 e8 (@zj _ _ _ _) (zq zah rfl B.len yi (za (pv 0) (@zb _))) (o0 rfl B.k_MOST_LETTERS)))))) (@zg _ _ _ (@zl _ _ _ _ (@v8 _ _ _ _))) (@yg _)) (@zg _ _ _ (@zl _ _ _ _ (zq (t9 rfl) rfl B.all lq (za (z0 ["sign"] ["thing"] rfl (@pi_str _ _ _ _ (pv 0)) (fun _ => (zm (i := 0) (show (["sign", "thing"] : List Str).Nodup by decide +kernel) rfl (Or.inl rfl))) (fun _ => (@zy _)) (fun _ => (zho zf7 zf7 (@uz _ _ _ _) (pv 0) (@uz _ _ _ _))) rfl (by decide +kernel) rfl rfl) (@zb _)))))), ?_⟩;rw [show start ["thing"] [V.str z] = [some (V.str z)] from rfl];simp only [zd, ze, ↓reduceIte];obtain ⟨g1, g2, g3⟩ := g;refine ⟨_, .str _, true, zh1, iteF ?_⟩;refine ⟨Zd g2 (by decide), ite2 (fun _ => ite2 (fun h => ?_) fun _ => ?_) fun h => (h (decide_eq_true (by omega))).elim⟩
    . rw [decide_eq_true (show (z.length : Int) <= 8 by omega)] at h
      cases h
    . intro d
      refine zhd (PvAT H) ⟨Same.refl _, rfl⟩ ?_ ?_ ?_
      . rintro i ys H' hi ⟨S, rfl⟩
        rw [rn];exact Zd hi (Zd (show z.cps.size <= 8 from g2) (by decide))
      . rintro i c ys H' hc ⟨S, rfl⟩
        have hm : c ∈ z.cps.toList := by
          obtain ⟨hi, e⟩ := Array.getElem?_eq_some_iff.mp hc;rw [<- e];exact Array.getElem_mem_toList hi
        obtain ⟨o1, o2⟩ := zh7 (g3 c hm).1 (g3 c hm).2;simp only [zd, ze, ↓reduceIte];rw [if_pos o1, o2];exact ⟨S, tz i⟩
      . rintro ys H' ⟨S, rfl⟩ l hl
        refine ⟨_, .of zf, ?_⟩;rw [rh];exact q _ (S.trans (Same.upd (Same.refl _) hl))
theorem vz (B : Bt mg) (qr : FnAt P w K mg base "is_name" 1 ["thing"] zdx) (D : zc K mg "are_names" qf ["thing", "most"]) : FnAt P w K mg base "are_names" 2 ["thing", "most"] zaz := by
  refine FnAt.of D zbo (fun vs H Q E h => ?_) (fun f cdv A outer s H vs Q E hr h => ?_)
  . obtain ⟨l, zs, m, rfl, _⟩ := h
    rfl
  . obtain ⟨l, zs, m, rfl, hl, g1, g2, g3, gG, gD, q⟩ := h
    refine ⟨_, (@zk _ _ _ _ _ (@y9 _ _ _ _ _ _ _ _ (PW.pt (@mx _ _ _ _ _ _ _ (@wn _ _ _ _ (w5 (zq x0 rfl B.isinstance xh (za (pv 0) (za (p6 rfl B.list rg) (@zb _)))))) (@nk _ _ _ _ (@wn _ _ _ _ (za6 e8 e8 (@zj _ _ _ _) (zq zt rfl B.len yi (za (pv 0) (@zb _))) (pv 1)))))) (@zg _ _ _ (@zl _ _ _ _ (@v8 _ _ _ _))) (@yg _)) (@zg _ _ _ (@zl _ _ _ _ (@o8 _ _ _ _ _ _ _ (zq (t9 rfl) rfl B.all lq (za (z0 ["one"] ["thing", "most"] rfl (@z8 _ _ _ _ (pv 0)) (fun _ => (zm (i := 0) (show (["one", "thing", "most"] : List Str).Nodup by decide +kernel) rfl (Or.inl rfl))) (fun _ => (@zy _)) (fun _ => (zh qr (hr.mono (by decide)) rfl (za (pv 0) (@zb _)))) rfl (by decide +kernel) rfl rfl) (@zb _))) (@l9 _ _ _ _ _ (@l6 _ _ _ _ _ _ _ _ f7 (zfz rfl rfl B.len rfl B.set (za (pv 0) (@zb _))) (zq zt rfl B.len yi (za (pv 0) (@zb _))) (yu _))))))), ?_⟩;rw [show start ["thing", "most"] [V.ref l, V.int m] = [some (V.ref l), some (V.int m)] from rfl];simp only [zd, ze, ↓reduceIte];refine ⟨_, .lst hl, true, ip, iteF ⟨_, .inl (.of hl), ?_⟩⟩;rw [Za];refine ite2 (fun _ => ite2 (fun h => ?_) fun _ => ?_) fun h => (h (decide_eq_true (by omega))).elim
    . rw [decide_eq_true (show (zs.length : Int) <= m by omega)] at h
      cases h
    . refine ⟨⟨_, .of hl⟩, fun d => ?_⟩
      refine yb (xs := zs.map V.str) (PvAT H) ⟨Same.refl _, rfl⟩ ?_ ?_ ?_
      . rintro i ys H2 hi ⟨S, rfl⟩
        rw [Za] at hi;exact ⟨by rw [rn]; exact Zd hi (Zd (show zs.length <= 8 by omega) (by decide)), S.seq (.of hl)⟩
      . rintro i x ys H2 hx ⟨S, rfl⟩
        obtain ⟨y, hy, rfl⟩ := ym hx;simp only [zd, ze, ↓reduceIte];exact ⟨y, rfl, gG y (Zi hy), fun H3 S3 => ⟨S.trans S3, tz i⟩⟩
      . rintro ys H2 ⟨S, rfl⟩ p hp
        have S2 : Same H (upd H2 p (.lst ((allT (zs.map V.str).length).map V.bl))) := S.trans (Same.upd (Same.refl _) hp);refine ⟨_, .of zf, ?_⟩;rw [rh];generalize upd H2 p (.lst ((allT (zs.map V.str).length).map V.bl)) = H3 at *;refine ⟨zs, S2.seq (.of hl), by omega, _, .inl (S2.seq (.of hl)), rfl, ?_⟩;rw [zdl gD _ (Zm _), Zt, Za, decide_eq_true rfl];exact q _ S2
theorem o7 (B : Bt mg) (wb : FnAt P w K mg base "is_grid_row" 3 ["thing", "width"] qRow) (D : zc K mg "are_worths" s9 ["thing", "height", "width"]) : FnAt P w K mg base "are_worths" 4 ["thing", "height", "width"] zdu := by
  refine FnAt.of D aa (fun vs H Q E h => ?_) (fun f cdv A outer s H vs Q E hr h => ?_)
  . obtain ⟨g, gs, rows, ht, n, rfl, _⟩ := h
    rfl
  . obtain ⟨g, gs, rows, ht, n, rfl, hg, l1, l2, b1, b2, hrow, hG, q⟩ := h
    refine ⟨_, (@zk _ _ _ _ _ (@y9 _ _ _ _ _ _ _ _ (PW.pt (@mx _ _ _ _ _ _ _ (@wn _ _ _ _ (w5 (zq x0 rfl B.isinstance xh (za (pv 0) (za (p6 rfl B.list rg) (@zb _)))))) (@nk _ _ _ _ (@y6 _ _ _ _ _ _ _ _ fq (zq zt rfl B.len yi (za (pv 0) (@zb _))) (pv 1) (yu _))))) (@zg _ _ _ (@zl _ _ _ _ (@v8 _ _ _ _))) (@yg _)) (@zg _ _ _ (@zl _ _ _ _ (zq (t9 rfl) rfl B.all lq (za (z0 ["row"] ["thing", "height", "width"] rfl (@z8 _ _ _ _ (pv 0)) (fun _ => (zm (i := 0) (show (["row", "thing", "height", "width"] : List Str).Nodup by decide +kernel) rfl (Or.inl rfl))) (fun _ => (@zy _)) (fun _ => (zh wb (hr.mono (by decide)) rfl (za (pv 0) (za (pv 3) (@zb _))))) rfl (by decide +kernel) rfl rfl) (@zb _)))))), ?_⟩;rw [show start ["thing", "height", "width"] [V.ref g, V.int ht, V.int n] = [some (V.ref g), some (V.int ht), some (V.int n)] from rfl];simp only [zd, ze, ↓reduceIte];refine ⟨_, .lst hg, true, ip, iteF ⟨_, .inl (.of hg), rfl, ?_⟩⟩;rw [Za, l1];refine iu rfl ⟨⟨_, .of hg⟩, fun d => ?_⟩;refine yb (xs := gs.map V.ref) (PvAT H) ⟨Same.refl _, rfl⟩ ?_ ?_ ?_
    . rintro i ys H2 hi ⟨S, rfl⟩
      rw [Za] at hi;exact ⟨by rw [rn]; exact Zd hi (Zd (show gs.length <= 8 by omega) (by decide)), S.seq (.of hg)⟩
    . rintro i x ys H2 hx ⟨S, rfl⟩
      obtain ⟨r, hr', rfl⟩ := ym hx;have hi : i < rows.length := by have := (Zc.mp hr').1; omega
      have e2 : rows[i]? = some rows[i] := by simp [hi]
      have hm := hG rows[i] (Zl hi);simp only [zd, ze, ↓reduceIte];exact ⟨r, rows[i], n, rfl, S _ _ (hrow i r rows[i] hr' e2), hm.1, b2, hm.2, fun H3 S3 => ⟨S.trans S3, tz i⟩⟩
    . rintro ys H2 ⟨S, rfl⟩ l hl
      refine ⟨_, .of zf, ?_⟩;rw [rh];exact q _ (S.trans (Same.upd (Same.refl _) hl))
theorem j7 (B : Bt mg) (qr : FnAt P w K mg base "is_name" 1 ["thing"] zdx) (vz : FnAt P w K mg base "are_names" 2 ["thing", "most"] zaz) (o7 : FnAt P w K mg base "are_worths" 4 ["thing", "height", "width"] zdu) (D : zc K mg "is_hand" my ["thing", "width"]) : FnAt P w K mg base "is_hand" 5 ["thing", "width"] qHand := by
  refine FnAt.of D zeu (fun vs H Q E h => ?_) (fun f cdv A outer s H vs Q E hr h => ?_)
  . obtain ⟨x, d, n, rfl, _⟩ := h
    rfl
  . obtain ⟨x, d, n, rfl, hx, g, n8, q⟩ := h
    refine ⟨_, (@zk _ _ _ _ _ (@y9 _ _ _ _ _ _ _ _ (PW.pt (@mx _ _ _ _ _ _ _ (@wn _ _ _ _ (w5 (zq x0 rfl B.isinstance xh (za (pv 0) (za (p6 rfl B.tuple tw) (@zb _)))))) (@nk _ _ _ _ (@y6 _ _ _ _ _ _ _ _ fq (zq zt rfl B.len yi (za (pv 0) (@zb _))) (@zj _ _ _ _) (yu _))))) (@zg _ _ _ (@zl _ _ _ _ (@v8 _ _ _ _))) (@yg _)) (@zg _ _ _ (@zl _ _ _ _ (@o8 _ _ _ _ _ _ _ (zh qr (hr.mono (by decide)) rfl (za (@zx _ _ _ _ _ _ _ yf (pv 0) (@zj _ _ _ _) (fun _ _ => rfl)) (@zb _))) (@o8 _ _ _ _ _ _ _ (zh vz (hr.mono (by decide)) rfl (za (@zx _ _ _ _ _ _ _ yf (pv 0) (@zj _ _ _ _) (fun _ _ => rfl)) (za (o0 rfl B.k_MOST_WORDS) (@zb _)))) (@l9 _ _ _ _ _ (zh o7 (hr.mono (by decide)) rfl (za (@zx _ _ _ _ _ _ _ yf (pv 0) (@zj _ _ _ _) (fun _ _ => rfl)) (za (zq zt rfl B.len yi (za (@zx _ _ _ _ _ _ _ yf (pv 0) (@zj _ _ _ _) (fun _ _ => rfl)) (@zb _))) (za (pv 1) (@zb _))))))))))), ?_⟩;rw [show start ["thing", "width"] [V.ref x.t, V.int n] = [some (V.ref x.t), some (V.int n)] from rfl];simp only [zd, ze, ↓reduceIte];refine ⟨_, .tup hx.tup, true, zc4, iteF ⟨_, .inr (.of hx.tup), rfl, iu rfl ?_⟩⟩;refine ⟨_, .of hx.tup, _, ya (j := 0) rfl, d.name, rfl, g.name, fun H1 S1 => ?_⟩;have hx1 := hx.mono S1;refine ⟨_, rfl, iteT ⟨_, .of hx1.tup, _, ya (j := 1) rfl, x.w, d.words, 8, rfl, hx1.words, g.words.1, g.words.2, Zm _, g.wordsG, g.wordsD, fun H2 S2 => ?_⟩⟩;have hx2 := hx1.mono S2;refine ⟨_, rfl, iteT ⟨_, .of hx2.tup, _, ya (j := 2) rfl, _, .of hx2.tup, _, ya (j := 1) rfl, x.w, rfl, _, .inl (.of hx2.words), ?_⟩⟩;rw [Za];have hw := g.words.2;have hr2 := g.rows;exact ⟨x.g, x.gs, d.worths, d.words.length, n, rfl, hx2.grid, by rw [hx2.len]; exact hr2, hr2, hw, n8, hx2.row, g.cols, fun H3 S3 => q H3 (S1.trans (S2.trans S3))⟩
theorem qt (D : zc K mg "name_of" mf ["hand"]) : FnAt P w K mg base "name_of" 1 ["hand"] (ma fun _ d => .str d.name) := by
  refine FnAt.of D zep (fun vs H Q E h => ?_) (fun f cdv A outer s H vs Q E hr h => ?_)
  . obtain ⟨x, d, rfl, _⟩ := h
    rfl
  . obtain ⟨x, d, rfl, hx, q⟩ := h
    refine ⟨_, (@zg _ _ _ (@zl _ _ _ _ (@zx _ _ _ _ _ _ _ yf (pv 0) (@zj _ _ _ _) (fun _ _ => rfl)))), ?_⟩;rw [show start ["hand"] [V.ref x.t] = [some (V.ref x.t)] from rfl];simp only [zd, ze, ↓reduceIte];exact ⟨_, .of hx.tup, _, ya (j := 0) rfl, q⟩
theorem yl (D : zc K mg "words_of_hand" w4 ["hand"]) : FnAt P w K mg base "words_of_hand" 1 ["hand"] (ma fun x _ => .ref x.w) := by
  refine FnAt.of D oz (fun vs H Q E h => ?_) (fun f cdv A outer s H vs Q E hr h => ?_)
  . obtain ⟨x, d, rfl, _⟩ := h
    rfl
  . obtain ⟨x, d, rfl, hx, q⟩ := h
    refine ⟨_, (@zg _ _ _ (@zl _ _ _ _ (@zx _ _ _ _ _ _ _ yf (pv 0) (@zj _ _ _ _) (fun _ _ => rfl)))), ?_⟩;rw [show start ["hand"] [V.ref x.t] = [some (V.ref x.t)] from rfl];simp only [zd, ze, ↓reduceIte];exact ⟨_, .of hx.tup, _, ya (j := 1) rfl, q⟩
theorem xk (D : zc K mg "worths_of_hand" wm ["hand"]) : FnAt P w K mg base "worths_of_hand" 1 ["hand"] (ma fun x _ => .ref x.g) := by
  refine FnAt.of D pj (fun vs H Q E h => ?_) (fun f cdv A outer s H vs Q E hr h => ?_)
  . obtain ⟨x, d, rfl, _⟩ := h
    rfl
  . obtain ⟨x, d, rfl, hx, q⟩ := h
    refine ⟨_, (@zg _ _ _ (@zl _ _ _ _ (@zx _ _ _ _ _ _ _ yf (pv 0) (@zj _ _ _ _) (fun _ _ => rfl)))), ?_⟩;rw [show start ["hand"] [V.ref x.t] = [some (V.ref x.t)] from rfl];simp only [zd, ze, ↓reduceIte];exact ⟨_, .of hx.tup, _, ya (j := 2) rfl, q⟩
theorem sg (B : Bt mg) (yl : FnAt P w K mg base "words_of_hand" 1 ["hand"] (ma fun x _ => .ref x.w)) (D : zc K mg "count_of_rows" ub ["hands"]) : FnAt P w K mg base "count_of_rows" 2 ["hands"] zfg := by
  refine FnAt.of D sc_count_of_rows (fun vs H Q E h => ?_) (fun f cdv A outer s H vs Q E hr h => ?_)
  . obtain ⟨b, xs, ds, rfl, _⟩ := h
    rfl
  . obtain ⟨b, xs, ds, rfl, hh, h8, h4, q⟩ := h
    refine ⟨_, (@zk _ _ _ _ _ (zz (i := 1) sc_count_of_rows.nd rfl (Or.inl rfl) (@zj _ _ _ _)) (@zk _ _ _ _ _ (yx PassesOwn.never rfl (@z8 _ _ _ _ (pv 0)) (zm (i := 2) sc_count_of_rows.nd rfl (Or.inl rfl)) (@zg _ _ _ (zz (i := 1) sc_count_of_rows.nd rfl (Or.inl rfl) (@zp _ _ _ _ _ _ _ _ jp (pv 1) (zq zt rfl B.len yi (za (zh yl (hr.mono (by decide)) rfl (za (pv 2) (@zb _))) (@zb _))))))) (@zg _ _ _ (@zl _ _ _ _ (pv 1))))), ?_⟩;rw [show start ["hands", "count", "hand"] [V.ref b] = [some (V.ref b), none, none] from rfl];simp only [zd, ze, ↓reduceIte];refine ⟨⟨_, .of hh.at'⟩, ?_⟩;refine vh (xs := xs.map fun x => V.ref x.t) (PvCt H b ds) ⟨rfl, _, rfl⟩ ?_ ?_ ?_
    . rintro i σ H4 hi ⟨rfl, v, rfl⟩
      exact .of hh.at'
    . rintro i x σ H4 hx ⟨rfl, v, rfl⟩
      obtain ⟨y, hy, rfl⟩ := ym hx;have hi : i < ds.length := by have := (Zc.mp hy).1; have := hh.len; omega
      have e2 : ds[i]? = some ds[i] := by simp [hi]
      have hd := hh.hand i y ds[i] hy e2;have hw := h8 ds[i] (Zl hi);simp only [zd, ze, ↓reduceIte];refine ⟨y, ds[i], rfl, hd, ?_⟩;simp only [zd, ze, ↓reduceIte];refine ⟨_, .inl (.of hd.words), ?_⟩;rw [Za];refine ⟨.inr ⟨by omega, by omega⟩, rfl, some (V.ref y.t), ?_⟩;rw [Zq, e2, Zn, List.prod_append];simp only [Option.toList, ZM, Yt, List.prod_cons, List.prod_nil, Nat.mul_one, Int.natCast_mul]
    . rintro σ H4 ⟨rfl, v, rfl⟩
      simp only [zd, ze, ↓reduceIte];rw [Za, hh.len, Zt];exact q
def zak : Sp := fun vs H Q _ => ∃ (b : Addr) (xs : List HX) (ds : List HD), vs = [.ref b] /\ HandsL H b xs ds /\ ds.length <= 4 /\ ∀ l, H l = none -> Q (.ref l) (upd H l (.lst ((ds.map HD.name).map V.str)))
theorem kc (qt : FnAt P w K mg base "name_of" 1 ["hand"] (ma fun _ d => .str d.name)) (D : zc K mg "names_of" p0 ["hands"]) : FnAt P w K mg base "names_of" 2 ["hands"] zak := by
  refine FnAt.of D zb9 (fun vs H Q E h => ?_) (fun f cdv A outer s H vs Q E hr h => ?_)
  . obtain ⟨b, xs, ds, rfl, _⟩ := h
    rfl
  . obtain ⟨b, xs, ds, rfl, hh3, g4, q⟩ := h
    refine ⟨_, (@zg _ _ _ (@zl _ _ _ _ (z0 ["hand"] ["hands"] rfl (@z8 _ _ _ _ (pv 0)) (fun _ => (zm (i := 0) (show (["hand", "hands"] : List Str).Nodup by decide +kernel) rfl (Or.inl rfl))) (fun _ => (@zy _)) (fun _ => (zh qt (hr.mono (by decide)) rfl (za (pv 0) (@zb _)))) rfl (by decide +kernel) rfl rfl))), ?_⟩;rw [show start ["hands"] [V.ref b] = [some (V.ref b)] from rfl];simp only [zd, ze, ↓reduceIte];refine ⟨⟨_, .of hh3.at'⟩, fun d2 => ?_⟩;refine yb (xs := xs.map fun x => V.ref x.t) (PvNm H ds) ⟨rfl, rfl⟩ ?_ ?_ ?_
    . rintro i ys H4 hi ⟨rfl, rfl⟩
      refine ⟨?_, .of hh3.at'⟩;rw [Za, Za, Zj];exact Zd (ZB _ _) (Zd g4 (by decide))
    . rintro i x ys H4 hx ⟨rfl, rfl⟩
      obtain ⟨y, hy, rfl⟩ := ym hx;have hi : i < ds.length := by have := (Zc.mp hy).1; have := hh3.len; omega
      have e2 : ds[i]? = some ds[i] := by simp [hi]
      simp only [zd, ze, ↓reduceIte];refine ⟨y, ds[i], rfl, hh3.hand i y ds[i] hy e2, rfl, ?_⟩;rw [Zq, e2, Zn, Zn];rfl
    . rintro ys H4 ⟨rfl, rfl⟩ l hl
      rw [Za, hh3.len, Zt];exact q l hl
theorem q8 (B : Bt mg) (vz : FnAt P w K mg base "are_names" 2 ["thing", "most"] zaz) (j7 : FnAt P w K mg base "is_hand" 5 ["thing", "width"] qHand) (kc : FnAt P w K mg base "names_of" 2 ["hands"] zak) (sg : FnAt P w K mg base "count_of_rows" 2 ["hands"] zfg)
    (D : zc K mg "makes_house" u8 ["outcomes", "hands"]) : FnAt P w K mg base "makes_house" 6 ["outcomes", "hands"] zev := by
  refine FnAt.of D cf (fun vs H Q E h => ?_) (fun f cdv A outer s H vs Q E hr h => ?_)
  . obtain ⟨o, b, outs, xs, ds, rfl, _⟩ := h
    rfl
  . obtain ⟨o, b, outs, xs, ds, rfl, ho, hh, g, q⟩ := h
    refine ⟨_, (@zk _ _ _ _ _ (@y9 _ _ _ _ _ _ _ _ (PW.pt (@mx _ _ _ _ _ _ _ (@wn _ _ _ _ (w5 (zh vz (hr.mono (by decide)) rfl (za (pv 0) (za (o0 rfl B.k_MOST_OUTCOMES) (@zb _)))))) (@nk _ _ _ _ (@wn _ _ _ _ (w5 (zq x0 rfl B.isinstance xh (za (pv 1) (za (p6 rfl B.list rg) (@zb _))))))))) (@zg _ _ _ (@zl _ _ _ _ (@v8 _ _ _ _))) (@yg _)) (@zk _ _ _ _ _ (@y9 _ _ _ _ _ _ _ _ (@wn _ _ _ _ (w5 (zq (t9 rfl) rfl B.all lq (za (z0 ["hand"] ["outcomes", "hands"] rfl (@z8 _ _ _ _ (pv 1)) (fun _ => (zm (i := 0) (show (["hand", "outcomes", "hands"] : List Str).Nodup by decide +kernel) rfl (Or.inl rfl))) (fun _ => (@zy _)) (fun _ => (zh j7 (hr.mono (by decide)) rfl (za (pv 0) (za (zq zt rfl B.len yi (za (pv 1) (@zb _))) (@zb _))))) rfl (by decide +kernel) rfl rfl) (@zb _))))) (@zg _ _ _ (@zl _ _ _ _ (@v8 _ _ _ _))) (@yg _)) (@zg _ _ _ (@zl _ _ _ _ (@o8 _ _ _ _ _ _ _ (zh vz (hr.mono (by decide)) rfl (za (zh kc (hr.mono (by decide)) rfl (za (pv 1) (@zb _))) (za (o0 rfl B.k_MOST_HANDS) (@zb _)))) (@l9 _ _ _ _ _ (@l6 _ _ _ _ _ _ _ _ e8 (zh sg (hr.mono (by decide)) rfl (za (pv 1) (@zb _))) (o0 rfl B.k_MOST_ROWS) (yu _)))))))), ?_⟩;rw [show start ["outcomes", "hands"] [V.ref o, V.ref b] = [some (V.ref o), some (V.ref b)] from rfl];simp only [zd, ze, ↓reduceIte];have g1 := g.outs1;have g2 := g.hands;refine ⟨o, outs, 8, rfl, ho, g1.1, g1.2, Zm _, g.outsG, g.outsD, fun H1 S1 => ?_⟩;simp only [zd, ze, ↓reduceIte];have hh1 := hh.mono S1;have ho1 := S1 _ _ ho;refine iteF ⟨_, .lst hh1.at', true, ip, iteF ⟨⟨_, .of hh1.at'⟩, fun d => ?_⟩⟩;refine yb (xs := xs.map fun x => V.ref x.t) (PvAT H1) ⟨Same.refl _, rfl⟩ ?_ ?_ ?_
    . rintro i ys H2 hi ⟨S, rfl⟩
      rw [Za, hh.len] at hi;exact ⟨by rw [rn]; exact Zd hi (Zd g2.2 (by decide)), S.seq (.of hh1.at')⟩
    . rintro i x ys H2 hx ⟨S, rfl⟩
      obtain ⟨y, hy, rfl⟩ := ym hx;have hi : i < ds.length := by have := (Zc.mp hy).1; have := hh.len; omega
      have e2 : ds[i]? = some ds[i] := by simp [hi]
      simp only [zd, ze, ↓reduceIte];refine ⟨_, .inl (S.seq (.of ho1)), ?_⟩;rw [Za];exact ⟨y, ds[i], outs.length, rfl, (hh1.hand i y ds[i] hy e2).mono S, g.hand (Zl hi), g1.2, fun H3 S3 => ⟨S.trans S3, tz i⟩⟩
    . rintro ys H2 ⟨S, rfl⟩ p hp
      have S2 : Same H1 (upd H2 p (.lst ((allT (xs.map fun x => V.ref x.t).length).map V.bl))) := S.trans (Same.upd (Same.refl _) hp);refine ⟨_, .of zf, ?_⟩;rw [rh];generalize upd H2 p (.lst ((allT (xs.map fun x => V.ref x.t).length).map V.bl)) = H3 at *;have hh3 := hh1.mono S2;refine iteF ⟨b, xs, ds, rfl, hh3, g2.2, fun l hl => ?_⟩;have S5 : Same H3 (upd H3 l (.lst ((ds.map HD.name).map V.str))) := Same.upd (Same.refl _) hl;refine ⟨l, ds.map HD.name, 4, rfl, zf, by rw [Za]; exact g2.1, by rw [Za]; exact g2.2, by decide, fun z hz => ?_, g.handsD, fun H6 S6 => ?_⟩
      . obtain ⟨d, hd, rfl⟩ := Zp.mp hz
        exact g.handsG d hd
      . generalize upd H3 l (.lst ((ds.map HD.name).map V.str)) = H5 at *
        have S36 := S5.trans S6;have few := g.few;refine ⟨_, rfl, iteT ⟨b, xs, ds, rfl, hh3.mono S36, fun d hd => (g.words1 d hd).2, g2.2, _, rfl, ?_⟩⟩;rw [decide_eq_true (by omega)];exact q _ (S1.trans (S2.trans S36))
end
section
variable {α : Type}
def xv (r : List α) (ws : List α) : List (List α) := ws.map fun w => r ++ [w]
def xt (rs : List (List α)) (ws : List α) : List (List α) := (rs.map fun r => xv r ws).flatten
def z7 (wss : List (List α)) : List (List α) := wss.foldl xt [[]]
theorem zd5 (wss : List (List α)) (ws : List α) : z7 (wss ++ [ws]) = xt (z7 wss) ws := by simp [z7]
theorem ft (r : List α) (rs : List (List α)) (ws : List α) : xt (r :: rs) ws = xv r ws ++ xt rs ws := by simp [xt]
theorem dm (rs : List (List α)) (r : List α) (ws : List α) : xt (rs ++ [r]) ws = xt rs ws ++ xv r ws := by simp [xt]
theorem qm (r : List α) (ws : List α) : (xv r ws).length = ws.length := by simp [xv]
theorem mq (ws : List α) : ∀ rs : List (List α), (xt rs ws).length = rs.length * ws.length
  | [] => by simp [xt]
  | r :: rs => by rw [ft, Zo, qm, mq ws rs, ZL, Nat.succ_mul, Nat.add_comm]
theorem um {wss : List (List α)} {j : Nat} {ws : List α} (h : wss[j]? = some ws) : z7 (wss.take (j + 1)) = xt (z7 (wss.take j)) ws := by
  rw [Zq, h];exact zd5 _ _
theorem jn {rs : List (List α)} {ws : List α} {row : List α} (h : row ∈ xt rs ws) : ∃ r w, r ∈ rs /\ w ∈ ws /\ row = r ++ [w] := by
  simp only [xt, xv, YB, Zp] at h;obtain ⟨l, ⟨r, hr, rfl⟩, h⟩ := h;obtain ⟨w, hw, rfl⟩ := Zp.mp h;exact ⟨r, w, hr, hw, rfl⟩
theorem gg (wss : List (List α)) : ∀ n, n <= wss.length -> ∀ row ∈ z7 (wss.take n), row.length = n := by
  intro n
  induction n with
  | zero => intro _ row h; simp [z7] at h; simp [h]
  | succ n ih =>
    intro h row hr;have e : wss[n]? = some wss[n] := Zb (by omega);rw [um e] at hr;obtain ⟨r, w, h1, _, rfl⟩ := jn hr;simp [ih (by omega) r h1]
end
structure TupsAt (H : Hp) (as : List Addr) (rs : List (List Str)) : Prop where
  len : as.length = rs.length
  at' : ∀ (i : Nat) (a : Addr) (r : List Str), as[i]? = some a -> rs[i]? = some r -> H a = some (.tup (r.map V.str))
theorem TupsAt.nil {H : Hp} : TupsAt H [] [] := ⟨rfl, fun i a r e => by simp at e⟩
theorem TupsAt.mono {H H' : Hp} {as : List Addr} {rs : List (List Str)} (S : Same H H') (h : TupsAt H as rs) : TupsAt H' as rs := ⟨h.len, fun i a r e1 e2 => S _ _ (h.at' i a r e1 e2)⟩
theorem TupsAt.append {H : Hp} {as bs : List Addr} {rs qs : List (List Str)} (h1 : TupsAt H as rs) (h2 : TupsAt H bs qs) : TupsAt H (as ++ bs) (rs ++ qs) := by
  refine ⟨by simp [h1.len, h2.len], fun i a r e1 e2 => ?_⟩
  by_cases hi : i < as.length
  . rw [Zg hi] at e1
    rw [Zg (by rw [<- h1.len]; exact hi)] at e2;exact h1.at' i a r e1 e2
  . rw [Zf (ZD.mp hi)] at e1
    rw [Zf (by rw [<- h1.len]; exact ZD.mp hi)] at e2;rw [h1.len] at e1;exact h2.at' _ a r e1 e2
theorem TupsAt.one {H : Hp} {a : Addr} {r : List Str} (h : H a = some (.tup (r.map V.str))) : TupsAt H [a] [r] := ⟨rfl, fun i b q e1 e2 => by
  cases i with
  | zero =>
    simp at e1 e2;subst e1 e2;exact h
  | succ i => simp at e1⟩
theorem TupsAt.past {H : Hp} {p : Addr} {xs ys : List V} {as : List Addr} {rs : List (List Str)} (hp : H p = some (.lst xs)) (h : TupsAt H as rs) : TupsAt (upd H p (.lst ys)) as rs :=
  ⟨h.len, fun i a r e1 e2 => by
    have := h.at' i a r e1 e2;rw [zr (fun e => by rw [e, hp] at this; cases this)]
    exact this⟩
structure RwsAt (H : Hp) (l : Addr) (as : List Addr) (rs : List (List Str)) : Prop where
  lst : H l = some (.lst (as.map V.ref))
  tups : TupsAt H as rs
theorem RwsAt.mono {H H' : Hp} {l : Addr} {as : List Addr} {rs : List (List Str)} (S : Same H H') (h : RwsAt H l as rs) : RwsAt H' l as rs := ⟨S _ _ h.lst, h.tups.mono S⟩
structure KHand (K : Fg) (H : Hp) (t : Addr) (d : HD) (w g : Addr) (gs : List Addr) : Prop where
  tup : SqT K H t [.str d.name, .ref w, .ref g]
  words : SqT K H w (d.words.map V.str)
  grid : SqT K H g (gs.map V.ref)
  len : gs.length = d.worths.length
  row : ∀ (i : Nat) (r : Addr) (ns : List Int), gs[i]? = some r -> d.worths[i]? = some ns -> SqT K H r (ns.map V.int)
def KHands (K : Fg) (H : Hp) (hs : List Addr) (ds : List HD) : Prop := hs.length = ds.length /\ ∀ (i : Nat) (t : Addr) (d : HD), hs[i]? = some t -> ds[i]? = some d -> ∃ w g gs, KHand K H t d w g gs
structure zae (K : Fg) (H : Hp) (p o h : Addr) (hs : List Addr) (outs : List Str) (ds : List HD) : Prop where
  tup : SqT K H p [.ref o, .ref h]
  outs : SqT K H o (outs.map V.str)
  hands : SqT K H h (hs.map V.ref)
  hand : KHands K H hs ds
theorem KHand.mono {K : Fg} {H H' : Hp} {t : Addr} {d : HD} {w g : Addr} {gs : List Addr} (S : Same H H') (h : KHand K H t d w g gs) : KHand K H' t d w g gs :=
  ⟨S.seqT h.tup, S.seqT h.words, S.seqT h.grid, h.len, fun i r ns e1 e2 => S.seqT (h.row i r ns e1 e2)⟩
theorem KHands.mono {K : Fg} {H H' : Hp} {hs : List Addr} {ds : List HD} (S : Same H H') (h : KHands K H hs ds) : KHands K H' hs ds :=
  ⟨h.1, fun i t d e1 e2 => by
    obtain ⟨w, g, gs, q⟩ := h.2 i t d e1 e2
    exact ⟨w, g, gs, q.mono S⟩⟩
def wf (K : Fg) (j : Nat) : Sp := fun vs H Q _ => ∃ (t : Addr) (us : List V) (v : V), vs = [.ref t] /\ SqT K H t us /\ us[j]? = some v /\ Q v H
def zfk (K : Fg) : Sp := fun vs H Q _ => ∃ (l wd : Addr) (as : List Addr) (rs : List (List Str)) (ws : List Str), vs = [.ref l, .ref wd] /\ RwsAt H l as rs /\ SqT K H wd (ws.map V.str) /\ rs.length <= 4096 /\ ws.length <= 8 /\ (∀ r ∈ rs, r.length <= 8) /\
  ∀ H' l' as', Same H H' -> H l' = none -> RwsAt H' l' as' (xt rs ws) -> Q (.ref l') H'
def PvEach (l wd p : Addr) (rs : List (List Str)) (ws : List Str) (H : Hp) (i : Nat) (σ : L2.St) (H' : Hp) : Prop := ∃ (as' : List Addr) (v : Option V), H' p = some (.lst (as'.map V.ref)) /\ TupsAt H' as' (xt (rs.take i) ws) /\ Same H H' /\ σ = [some (.ref l), some (.ref wd), some (.ref p), v]
def PvLong (r ws : List Str) (H : Hp) (i : Nat) (ys : List V) (H' : Hp) : Prop := ∃ as' : List Addr, ys = as'.map V.ref /\ TupsAt H' as' (xv r (ws.take i)) /\ Same H H'
def zax (K : Fg) : Sp := fun vs H Q _ => ∃ (h : Addr) (hs : List Addr) (ds : List HD), vs = [.ref h] /\ SqT K H h (hs.map V.ref) /\ KHands K H hs ds /\ ds.length <= 4 /\ (∀ d ∈ ds, d.words.length <= 8) /\
  ∀ H' l as, Same H H' -> H l = none -> RwsAt H' l as (z7 (ds.map HD.words)) -> Q (.ref l) H'
def PvOver (h : Addr) (ds : List HD) (H : Hp) (i : Nat) (σ : L2.St) (H' : Hp) : Prop := ∃ (l : Addr) (as : List Addr) (v : Option V), H l = none /\ RwsAt H' l as (z7 ((ds.map HD.words).take i)) /\ Same H H' /\ σ = [some (.ref h), some (.ref l), v]
def zba (K : Fg) : Sp := fun vs H Q _ => ∃ (p o h : Addr) (hs : List Addr) (outs : List Str) (ds : List HD), vs = [.ref p] /\ zae K H p o h hs outs ds /\ ds.length <= 4 /\ (∀ d ∈ ds, d.words.length <= 8) /\
  ∀ H' l as, Same H H' -> H l = none -> RwsAt H' l as (z7 (ds.map HD.words)) -> Q (.ref l) H'
def bz (K : Fg) : Sp := fun vs H Q _ => ∃ (p : Addr) (xs : List V) (k : Nat), vs = [.ref p, .int k] /\ SqT K H p xs /\ k < xs.length /\ xs.length <= 64 /\ ∀ H' p', Same H H' -> H' p' = some (.tup (xs.eraseIdx k)) -> Q (.ref p') H'
def d5 (K : Fg) : Sp := fun vs H Q _ => ∃ (p o h : Addr) (hs : List Addr) (outs : List Str) (ds : List HD) (k : Nat), vs = [.ref p, .int k] /\ zae K H p o h hs outs ds /\ k < ds.length /\ ds.length <= 4 /\ (∀ d ∈ ds, d.words.length <= 8) /\
  ∀ H' l as, Same H H' -> H l = none -> RwsAt H' l as (z7 ((ds.eraseIdx k).map HD.words)) -> Q (.ref l) H'
theorem rj {wss : List (List Str)} (h4 : wss.length <= 4) (h8 : ∀ ws ∈ wss, ws.length <= 8) (n : Nat) (hn : n <= wss.length) : (z7 (wss.take n)).length <= 4096 := by
  have : ∀ m, m <= wss.length -> (z7 (wss.take m)).length <= 8 ^ m := by
    intro m
    induction m with
    | zero => intro _; exact Zm _
    | succ m ih =>
      intro h;have e : wss[m]? = some wss[m] := Zb (by omega);rw [um e, mq, Nat.pow_succ];exact YO (ih (by omega)) (h8 _ (Zl (by omega)))
  exact Zd (this n hn) (Nat.pow_le_pow_right (by decide) (show n <= 4 by omega))
section
variable {P : Program} {w : World} {K : Fg} {mg : Str -> Option Value} {base : Heap}
theorem zer (D : zc K mg "hands_of" pk ["house"]) : FnAt P w K mg base "hands_of" 1 ["house"] (wf K 1) := by
  refine FnAt.of D zcm (fun vs H Q E h => ?_) (fun f cdv A outer s H vs Q E hr h => ?_)
  . obtain ⟨t, us, v, rfl, _⟩ := h
    rfl
  . obtain ⟨t, us, v, rfl, ht, e, q⟩ := h
    refine ⟨_, (@zg _ _ _ (@zl _ _ _ _ (@zx _ _ _ _ _ _ _ yf (pv 0) (@zj _ _ _ _) (fun _ _ => rfl)))), ?_⟩;rw [show start ["house"] [V.ref t] = [some (V.ref t)] from rfl];simp only [zd, ze, ↓reduceIte];exact ⟨_, ht, _, ya (j := 1) e, q⟩
theorem dv (D : zc K mg "words_of_hand" w4 ["hand"]) : FnAt P w K mg base "words_of_hand" 1 ["hand"] (wf K 1) := by
  refine FnAt.of D oz (fun vs H Q E h => ?_) (fun f cdv A outer s H vs Q E hr h => ?_)
  . obtain ⟨t, us, v, rfl, _⟩ := h
    rfl
  . obtain ⟨t, us, v, rfl, ht, e, q⟩ := h
    refine ⟨_, (@zg _ _ _ (@zl _ _ _ _ (@zx _ _ _ _ _ _ _ yf (pv 0) (@zj _ _ _ _) (fun _ _ => rfl)))), ?_⟩;rw [show start ["hand"] [V.ref t] = [some (V.ref t)] from rfl];simp only [zd, ze, ↓reduceIte];exact ⟨_, ht, _, ya (j := 1) e, q⟩
theorem m9 (B : Bt mg) (D : zc K mg "with_each" qc ["rows", "words"]) : FnAt P w K mg base "with_each" 1 ["rows", "words"] (zfk K) := by
  refine FnAt.of D sc_with_each (fun vs H Q E h => ?_) (fun f cdv A outer s H vs Q E hr h => ?_)
  . obtain ⟨l, wd, as, rs, ws, rfl, _⟩ := h
    rfl
  . obtain ⟨l, wd, as, rs, ws, rfl, hR, hW, b1, b2, b3, q⟩ := h
    refine ⟨_, (@zk _ _ _ _ _ (zz (i := 2) sc_with_each.nd rfl (Or.inl rfl) (@wj _ _ _ _ (@zb _))) (@zk _ _ _ _ _ (yx PassesOwn.never rfl (@z8 _ _ _ _ (pv 0)) (zm (i := 3) sc_with_each.nd rfl (Or.inr rfl)) (@zg _ _ _ (vx (qk PySem.F.plainAttrs_list PySem.F.slot_list_extend PySem.F.type_list_extend bj (pv 2) (za (z0 ["word"] ["rows", "words", "longer", "row"] rfl (@j5 _ _ _ _ (pv 1)) (fun _ => (zm (i := 0) (show (["word", "rows", "words", "longer", "row"] : List Str).Nodup by decide +kernel) rfl (Or.inl rfl))) (fun _ => (@zy _)) (fun _ => (@zp _ _ _ _ _ _ _ _ ri (pv 4) (@y7 _ _ _ _ _ (za (pv 0) (@zb _))))) rfl (by decide +kernel) rfl rfl) (@zb _)))))) (@zg _ _ _ (@zl _ _ _ _ (pv 2))))), ?_⟩;rw [show start ["rows", "words", "longer", "row"] [V.ref l, V.ref wd] = [some (V.ref l), some (V.ref wd), none, none] from rfl];simp only [zd, ze, ↓reduceIte];refine ⟨by decide, fun p hp => ?_⟩;have S1 : Same H (upd H p (.lst [])) := Same.upd (Same.refl _) hp;refine ⟨⟨_, .of (S1 _ _ hR.lst)⟩, ?_⟩;refine vh (xs := as.map V.ref) (PvEach l wd p rs ws H) ⟨[], _, zf, TupsAt.nil, S1, rfl⟩ ?_ ?_ ?_
    . rintro i σ H' hi ⟨as', v, h1, h2, S, rfl⟩
      exact .of (S _ _ hR.lst)
    . rintro i x σ H' hx ⟨as', v, h1, h2, S, rfl⟩
      obtain ⟨a, ha, rfl⟩ := ym hx;have hi : i < rs.length := by have := (Zc.mp ha).1; have := hR.tups.len; omega
      have er : rs[i]? = some rs[i] := Zb hi;have hrow := hR.tups.at' i a _ ha er;have hr8 := b3 _ (Zl hi);simp only [zd, ze, ↓reduceIte];refine ⟨.inl ⟨rfl, _, .of h1⟩, ⟨_, S.seqT hW⟩, fun d => ?_⟩;refine jh (xs := ws.map V.str) (PvLong rs[i] ws H') ⟨[], rfl, TupsAt.nil, Same.refl _⟩ ?_ ?_ ?_
      . rintro j ys H2 hj ⟨bs, rfl, t2, S2⟩
        refine ⟨?_, S2.seqT (S.seqT hW)⟩;rw [Za, t2.len, qm, Zj];exact Zd (ZB _ _) (Zd b2 (by decide))
      . rintro j y ys H2 hy ⟨bs, rfl, t2, S2⟩
        obtain ⟨z, hz, rfl⟩ := ym hy;simp only [zd, ze, ↓reduceIte];refine ⟨by decide, fun c hc => ?_⟩;have S3 : Same H2 (upd H2 c (.tup [V.str z])) := Same.upd (Same.refl _) hc;refine ⟨_, (S.trans (S2.trans S3)) _ _ hrow, _, zf, ?_, fun H4 e S4 he => ?_⟩
        . rw [Za]
          exact Zd (show _ <= 9 by simp; omega) (by decide)
        . refine ⟨bs ++ [e], by simp, ?_, S2.trans (S3.trans S4)⟩
          rw [Zq, hz]
          show TupsAt H4 (bs ++ [e]) (xv _ (ws.take j ++ [z]))
          rw [xv, Zn];exact (t2.mono (S3.trans S4)).append (TupsAt.one (by rw [he]; simp))
      . rintro ys H2 ⟨bs, rfl, t2, S2⟩ l2 hl2
        rw [Za, Zt] at t2;have S3 : Same H2 (upd H2 l2 (.lst (bs.map V.ref))) := Same.upd (Same.refl _) hl2;have h3 : upd H2 l2 (.lst (bs.map V.ref)) l2 = some (.lst (bs.map V.ref)) := zf;generalize upd H2 l2 (.lst (bs.map V.ref)) = H3 at *;have hp3 := (S2.trans S3) _ _ h1;refine ⟨_, hp3, _, h3, ?_, ?_⟩
        . rw [Za, Za, h2.len, t2.len, qm, mq, Zj]
          have : min i rs.length * ws.length <= 4096 * 8 := YO (by omega) b2;exact Zd (show _ <= 4096 * 8 + 8 by omega) (by decide)
        . refine ⟨as' ++ bs, _, by rw [zf, Zn], ?_, Same.upd (S.trans (S2.trans S3)) hp, rfl⟩
          rw [Zq, er]
          show TupsAt _ _ (xt (rs.take i ++ [rs[i]]) ws)
          rw [dm];exact ((h2.mono (S2.trans S3)).append (t2.mono S3)).past hp3
    . rintro σ H' ⟨as', v, h1, h2, S, rfl⟩
      simp only [zd, ze, ↓reduceIte];rw [Za, hR.tups.len, Zt] at h2;exact q H' p as' S hp ⟨h1, h2⟩
theorem u0 (B : Bt mg) (m9 : FnAt P w K mg base "with_each" 1 ["rows", "words"] (zfk K)) (yl : FnAt P w K mg base "words_of_hand" 1 ["hand"] (wf K 1)) (D : zc K mg "rows_over" r6 ["hands"]) : FnAt P w K mg base "rows_over" 2 ["hands"] (zax K) := by
  refine FnAt.of D sc_rows_over (fun vs H Q E h => ?_) (fun f cdv A outer s H vs Q E hr h => ?_)
  . obtain ⟨b, hs, ds, rfl, _⟩ := h
    rfl
  . obtain ⟨b, hs, ds, rfl, hH, hK, h4, h8, q⟩ := h
    refine ⟨_, (@zk _ _ _ _ _ (@zz _ _ 1 _ _ _ _ sc_rows_over.nd rfl (Or.inl rfl) (@wj _ _ _ _ (@za _ _ _ _ _ (@y7 _ _ _ _ _ (@zb _)) (@zb _) (yd nofun))) rfl (Or.inl rfl)) (@zk _ _ _ _ _ (yx PassesOwn.never rfl (@j5 _ _ _ _ (pv 0)) (zm (i := 2) sc_rows_over.nd rfl (Or.inl rfl)) (@zg _ _ _ (zz (i := 1) sc_rows_over.nd rfl (Or.inl rfl) (zh m9 (hr.mono (by decide)) rfl (za (pv 1) (za (zh yl (hr.mono (by decide)) rfl (za (pv 2) (@zb _))) (@zb _))))))) (@zg _ _ _ (@zl _ _ _ _ (pv 1))))), ?_⟩;rw [show start ["hands", "rows", "hand"] [V.ref b] = [some (V.ref b), none, none] from rfl];simp only [zd, ze, ↓reduceIte];refine ⟨by decide, fun c hc => ⟨by decide, fun p hp => ?_⟩⟩;have S1 : Same H (upd H c (.tup [])) := Same.upd (Same.refl _) hc;have h1 : upd H c (.tup []) c = some (.tup []) := zf;generalize upd H c (.tup []) = H1 at *;have S2 : Same H1 (upd H1 p (.lst [V.ref c])) := Same.upd (Same.refl _) hp;have h2 : upd H1 p (.lst [V.ref c]) p = some (.lst [V.ref c]) := zf;generalize upd H1 p (.lst [V.ref c]) = H2 at *;have S := S1.trans S2;refine ⟨⟨_, S.seqT hH⟩, ?_⟩;refine zh3 (xs := hs.map V.ref) (PvOver b ds H) ⟨p, [c], _, S1.free hp, ⟨h2, TupsAt.one (S2 _ _ h1)⟩, S, rfl⟩ ?_ ?_ ?_
    . rintro i σ H' hi ⟨l, as, v, hl, hR, S', rfl⟩
      exact S'.seqT hH
    . rintro i x σ H' hx ⟨l, as, v, hl, hR, S', rfl⟩
      obtain ⟨t, ht, rfl⟩ := ym hx;have hi : i < ds.length := by have := (Zc.mp ht).1; have := hK.1; omega
      have ed : ds[i]? = some ds[i] := Zb hi;obtain ⟨wd, g, gs, hd⟩ := (hK.mono S').2 i t _ ht ed;simp only [zd, ze, ↓reduceIte];refine ⟨t, _, _, rfl, hd.tup, rfl, ?_⟩;have ew : (ds.map HD.words)[i]? = some ds[i].words := by rw [Ze, ed]; rfl
      have hb : ∀ r ∈ z7 ((ds.map HD.words).take i), r.length <= 8 := fun r hr => by
        have := gg (ds.map HD.words) i (by rw [Za]; omega) r hr;omega
      refine ⟨l, wd, as, _, ds[i].words, rfl, hR, hd.words, rj (by rw [Za]; exact h4) (fun ws hws => ?_) i (by rw [Za]; omega), h8 _ (Zl hi), hb, fun H3 l3 as3 S3 hl3 R3 => ?_⟩
      . obtain ⟨d, hd, rfl⟩ := Zp.mp hws
        exact h8 d hd
      . simp only [zd, ze, ↓reduceIte]
        refine ⟨l3, as3, _, S'.free hl3, ?_, S'.trans S3, rfl⟩;rw [um ew];exact R3
    . rintro σ H' ⟨l, as, v, hl, hR, S', rfl⟩
      simp only [zd, ze, ↓reduceIte];rw [Za, hK.1, ZG (by rw [Za]; omega)] at hR;exact q H' l as S' hl hR
theorem j6 (B : Bt mg) (u0 : FnAt P w K mg base "rows_over" 2 ["hands"] (zax K)) (f_hands_of : FnAt P w K mg base "hands_of" 1 ["house"] (wf K 1)) (D : zc K mg "rows_of" mm ["house"]) : FnAt P w K mg base "rows_of" 3 ["house"] (zba K) := by
  refine FnAt.of D zd9 (fun vs H Q E h => ?_) (fun f cdv A outer s H vs Q E hr h => ?_)
  . obtain ⟨p, o, a, hs, outs, ds, rfl, _⟩ := h
    rfl
  . obtain ⟨p, o, a, hs, outs, ds, rfl, hH, h4, h8, q⟩ := h
    refine ⟨_, (@zg _ _ _ (@zl _ _ _ _ (zh u0 (hr.mono (by decide)) rfl (za (zh f_hands_of (hr.mono (by decide)) rfl (za (pv 0) (@zb _))) (@zb _))))), ?_⟩;rw [show start ["house"] [V.ref p] = [some (V.ref p)] from rfl];simp only [zd, ze, ↓reduceIte];exact ⟨p, _, _, rfl, hH.tup, rfl, a, hs, ds, rfl, hH.hands, hH.hand, h4, h8, q⟩
theorem j8 (B : Bt mg) (D : zc K mg "without" n0 ["things", "k"]) : FnAt P w K mg base "without" 1 ["things", "k"] (bz K) := by
  refine FnAt.of D zek (fun vs H Q E h => ?_) (fun f cdv A outer s H vs Q E hr h => ?_)
  . obtain ⟨p, xs, k, rfl, _⟩ := h
    rfl
  . obtain ⟨p, xs, k, rfl, hp, hk, h64, q⟩ := h
    refine ⟨_, (@zg _ _ _ (@zl _ _ _ _ (@zp _ _ _ _ _ _ _ _ ri (@vn _ _ _ _ _ _ _ _ _ _ zam (pv 0) (@ul _) (@uk _ _ _ (pv 1))) (@vn _ _ _ _ _ _ _ _ _ _ zam (pv 0) (@uk _ _ _ (@zp _ _ _ _ _ _ _ _ y8 (pv 1) (@zj _ _ _ _))) (@ul _))))), ?_⟩;rw [show start ["things", "k"] [V.ref p, V.int k] = [some (V.ref p), some (V.int k)] from rfl];simp only [zd, ze, ↓reduceIte];refine ⟨_, hp, ?_, fun c hc => ?_⟩
    . rw [HT.sIx_nat]
      omega
    . rw [iq (YF hk)]
      have S1 : Same H (upd H c (.tup (xs.take k))) := Same.upd (Same.refl _) hc;have h1 : upd H c (.tup (xs.take k)) c = some (.tup (xs.take k)) := zf;generalize upd H c (.tup (xs.take k)) = H1 at *;refine ⟨_, S1.seqT hp, ?_, fun e he => ?_⟩
      . rw [show (k : Int) + 1 = ((k + 1 : Nat) : Int) by omega, HT.sIx_nat]
        omega
      . rw [show (k : Int) + 1 = ((k + 1 : Nat) : Int) by omega, mi hk]
        have S2 : Same H1 (upd H1 e (.tup (xs.drop (k + 1)))) := Same.upd (Same.refl _) he;refine ⟨_, S2 _ _ h1, _, zf, ?_, fun H3 r S3 hr => ?_⟩
        . rw [Zj, ZP]
          exact Zd (show _ <= 64 by omega) (by decide)
        . refine q H3 r (S1.trans (S2.trans S3)) ?_
          rw [hr, ZY]
theorem lc (B : Bt mg) (u0 : FnAt P w K mg base "rows_over" 2 ["hands"] (zax K)) (f_hands_of : FnAt P w K mg base "hands_of" 1 ["house"] (wf K 1)) (j8 : FnAt P w K mg base "without" 1 ["things", "k"] (bz K)) (D : zc K mg "others_of" qo ["house", "k"]) : FnAt P w K mg base "others_of" 3 ["house", "k"] (d5 K) := by
  refine FnAt.of D zap (fun vs H Q E h => ?_) (fun f cdv A outer s H vs Q E hr h => ?_)
  . obtain ⟨p, o, a, hs, outs, ds, k, rfl, _⟩ := h
    rfl
  . obtain ⟨p, o, a, hs, outs, ds, k, rfl, hH, hk, h4, h8, q⟩ := h
    refine ⟨_, (@zg _ _ _ (@zl _ _ _ _ (zh u0 (hr.mono (by decide)) rfl (za (zh j8 (hr.mono (by decide)) rfl (za (zh f_hands_of (hr.mono (by decide)) rfl (za (pv 0) (@zb _))) (za (pv 1) (@zb _)))) (@zb _))))), ?_⟩;rw [show start ["house", "k"] [V.ref p, V.int k] = [some (V.ref p), some (V.int k)] from rfl];simp only [zd, ze, ↓reduceIte];have hl := hH.hand.1;refine ⟨p, _, _, rfl, hH.tup, rfl, a, _, k, rfl, hH.hands, by rw [Za]; omega, by rw [Za]; omega, fun H1 b S1 hb => ?_⟩
    have e : (hs.map V.ref).eraseIdx k = (hs.eraseIdx k).map V.ref := by
      rw [ZY, ZY, Zn, List.map_take, List.map_drop]
    rw [e] at hb;refine ⟨b, hs.eraseIdx k, ds.eraseIdx k, rfl, .of hb, ⟨?_, fun i t d e1 e2 => ?_⟩, ?_, fun d hd => h8 d (Yb hd), fun H2 l as S2 hl R2 => q H2 l as (S1.trans S2) (S1.free hl) R2⟩
    . rw [Yq, Yq, hl]
    . rw [Yn] at e1 e2
      by_cases hik : i < k
      . rw [if_pos hik] at e1 e2
        exact (hH.hand.mono S1).2 i t d e1 e2
      . rw [if_neg hik] at e1 e2
        exact (hH.hand.mono S1).2 (i + 1) t d e1 e2
    . exact Zd (List.length_eraseIdx_le _ _) h4
end
structure HHand (H : Hp) (t : Addr) (d : HD) (w g : Addr) (gs : List Addr) : Prop where
  tup : H t = some (.tup [.str d.name, .ref w, .ref g])
  words : H w = some (.tup (d.words.map V.str))
  grid : H g = some (.tup (gs.map V.ref))
  len : gs.length = d.worths.length
  row : ∀ (i : Nat) (r : Addr) (ns : List Int), gs[i]? = some r -> d.worths[i]? = some ns -> H r = some (.tup (ns.map V.int))
theorem HHand.mono {H H' : Hp} {t : Addr} {d : HD} {w g : Addr} {gs : List Addr} (S : Same H H') (h : HHand H t d w g gs) : HHand H' t d w g gs :=
  ⟨S _ _ h.tup, S _ _ h.words, S _ _ h.grid, h.len, fun i r ns e1 e2 => S _ _ (h.row i r ns e1 e2)⟩
theorem HHand.k {K : Fg} {H : Hp} {t : Addr} {d : HD} {w g : Addr} {gs : List Addr} (h : HHand H t d w g gs) : KHand K H t d w g gs :=
  ⟨.of h.tup, .of h.words, .of h.grid, h.len, fun i r ns e1 e2 => .of (h.row i r ns e1 e2)⟩
def HHands (H : Hp) (hs : List Addr) (ds : List HD) : Prop := hs.length = ds.length /\ ∀ (i : Nat) (t : Addr) (d : HD), hs[i]? = some t -> ds[i]? = some d -> ∃ w g gs, HHand H t d w g gs
theorem HHands.mono {H H' : Hp} {hs : List Addr} {ds : List HD} (S : Same H H') (h : HHands H hs ds) : HHands H' hs ds :=
  ⟨h.1, fun i t d e1 e2 => by
    obtain ⟨w, g, gs, q⟩ := h.2 i t d e1 e2
    exact ⟨w, g, gs, q.mono S⟩⟩
theorem HHands.snoc {H : Hp} {hs : List Addr} {ds : List HD} {t : Addr} {d : HD} {w g : Addr} {gs : List Addr} (h : HHands H hs ds) (q : HHand H t d w g gs) : HHands H (hs ++ [t]) (ds ++ [d]) := by
  refine ⟨by simp [h.1], fun i a e e1 e2 => ?_⟩
  by_cases hi : i < hs.length
  . rw [Zg hi] at e1
    rw [Zg (by rw [<- h.1]; exact hi)] at e2;exact h.2 i a e e1 e2
  . rw [Zf (ZD.mp hi)] at e1
    rw [Zf (by rw [<- h.1]; exact ZD.mp hi)] at e2
    have h0 : i - hs.length = 0 := by
      have := (Zc.mp e1).1;simp at this;omega
    rw [h0] at e1;rw [<- h.1, h0] at e2;simp at e1 e2;subst e1 e2;exact ⟨w, g, gs, q⟩
structure HHouse (H : Hp) (p o h : Addr) (hs : List Addr) (outs : List Str) (ds : List HD) : Prop where
  tup : H p = some (.tup [.ref o, .ref h])
  outs : H o = some (.tup (outs.map V.str))
  hands : H h = some (.tup (hs.map V.ref))
  hand : HHands H hs ds
theorem HHouse.mono {H H' : Hp} {p o h : Addr} {hs : List Addr} {outs : List Str} {ds : List HD} (S : Same H H') (q : HHouse H p o h hs outs ds) : HHouse H' p o h hs outs ds :=
  ⟨S _ _ q.tup, S _ _ q.outs, S _ _ q.hands, q.hand.mono S⟩
theorem HHouse.k {K : Fg} {H : Hp} {p o h : Addr} {hs : List Addr} {outs : List Str} {ds : List HD} (q : HHouse H p o h hs outs ds) : zae K H p o h hs outs ds :=
  ⟨.of q.tup, .of q.outs, .of q.hands, q.hand.1, fun i t d e1 e2 => by
    obtain ⟨w, g, gs, z⟩ := q.hand.2 i t d e1 e2
    exact ⟨w, g, gs, z.k⟩⟩
structure IntTs (H : Hp) (ls : List Addr) (ps : List (List Int)) : Prop where
  len : ls.length = ps.length
  at' : ∀ (i : Nat) (l : Addr) (p : List Int), ls[i]? = some l -> ps[i]? = some p -> H l = some (.tup (p.map V.int))
theorem IntTs.mono {H H' : Hp} {ls : List Addr} {ps : List (List Int)} (S : Same H H') (h : IntTs H ls ps) : IntTs H' ls ps := ⟨h.len, fun i l p e1 e2 => S _ _ (h.at' i l p e1 e2)⟩
theorem IntTs.snoc {H : Hp} {ls : List Addr} {ps : List (List Int)} {l : Addr} {p : List Int} (h : IntTs H ls ps) (hl : H l = some (.tup (p.map V.int))) : IntTs H (ls ++ [l]) (ps ++ [p]) := by
  refine ⟨by simp [h.len], fun i a q e1 e2 => ?_⟩
  by_cases hi : i < ls.length
  . rw [Zg hi] at e1
    rw [Zg (by rw [<- h.len]; exact hi)] at e2;exact h.at' i a q e1 e2
  . rw [Zf (ZD.mp hi)] at e1
    rw [Zf (by rw [<- h.len]; exact ZD.mp hi)] at e2
    have h0 : i - ls.length = 0 := by
      have := (Zc.mp e1).1;simp at this;omega
    rw [h0] at e1;rw [<- h.len, h0] at e2;simp at e1 e2;subst e1 e2;exact hl
def zf0 : Sp := fun vs H Q _ => ∃ (x : HX) (d : HD), vs = [.ref x.t] /\ HandAt H x d /\ d.worths.length <= 8 /\ ∀ H' t w g gs, Same H H' -> HHand H' t d w g gs -> Q (.ref t) H'
def zbb : Sp := fun vs H Q _ => ∃ (o b : Addr) (outs : List Str) (xs : List HX) (ds : List HD), vs = [.ref o, .ref b] /\ H o = some (.lst (outs.map V.str)) /\ HandsL H b xs ds /\ GoodHouse outs ds /\ ∀ H' p o' h hs, Same H H' -> HHouse H' p o' h hs outs ds -> Q (.ref p) H'
def PvEH (rows : List (List Int)) (H1 : Hp) (i : Nat) (ys : List V) (H' : Hp) : Prop := Same H1 H' /\ ∃ gs : List Addr, ys = gs.map V.ref /\ IntTs H' gs (rows.take i)
def PvDH (ds : List HD) (H1 : Hp) (i : Nat) (ys : List V) (H' : Hp) : Prop := Same H1 H' /\ ∃ hs : List Addr, ys = hs.map V.ref /\ HHands H' hs (ds.take i)
section
variable {P : Program} {w : World} {K : Fg} {mg : Str -> Option Value} {base : Heap} {a : Ad}
theorem zca (B : Bt mg) (qt : FnAt P w K mg base "name_of" 1 ["hand"] (ma fun _ d => .str d.name)) (yl : FnAt P w K mg base "words_of_hand" 1 ["hand"] (ma fun x _ => .ref x.w)) (xk : FnAt P w K mg base "worths_of_hand" 1 ["hand"] (ma fun x _ => .ref x.g))
    (D : zc K mg "kept_hand" qi ["hand"]) : FnAt P w K mg base "kept_hand" 2 ["hand"] zf0 := by
  refine FnAt.of D sc_kept_hand (fun vs H Q E h => ?_) (fun f cdv A outer s H vs Q E hr h => ?_)
  . obtain ⟨x, d, rfl, _⟩ := h
    rfl
  . obtain ⟨x, d, rfl, hx, h8, q⟩ := h
    refine ⟨_, (@zk _ _ _ _ _ (zz (i := 1) sc_kept_hand.nd rfl (Or.inl rfl) (vc qq rfl B.tuple tw (za (z0 ["row"] ["hand", "worths"] rfl (@z8 _ _ _ _ (zh xk (hr.mono (by decide)) rfl (za (pv 0) (@zb _)))) (fun _ => (zm (i := 0) (show (["row", "hand", "worths"] : List Str).Nodup by decide +kernel) rfl (Or.inl rfl))) (fun _ => (@zy _)) (fun _ => (vc qq rfl B.tuple tw (za (pv 0) (@zb _)))) rfl (by decide +kernel) rfl rfl) (@zb _)))) (@zg _ _ _ (@zl _ _ _ _ (@y7 _ _ _ _ _ (za (zh qt (hr.mono (by decide)) rfl (za (pv 0) (@zb _))) (za (vc qq rfl B.tuple tw (za (zh yl (hr.mono (by decide)) rfl (za (pv 0) (@zb _))) (@zb _))) (za (pv 1) (@zb _)))))))), ?_⟩;rw [show start ["hand", "worths"] [V.ref x.t] = [some (V.ref x.t), none] from rfl];simp only [zd, ze, ↓reduceIte];refine ⟨x, d, rfl, hx, ?_⟩;simp only [zd, ze, ↓reduceIte];refine ⟨⟨_, .of hx.grid⟩, fun dd => ?_⟩;refine yb (xs := x.gs.map V.ref) (PvEH d.worths H) ⟨Same.refl _, [], rfl, rfl, fun i l p e => by simp at e⟩ ?_ ?_ ?_
    . rintro i ys H2 hi ⟨S, gs, rfl, ty⟩
      rw [Za, hx.len] at hi;have ly : gs.length = i := by rw [ty.len, Zj]; omega
      exact ⟨by rw [Za, ly]; exact Zd hi (Zd h8 (by decide)), S.seq (.of hx.grid)⟩
    . rintro i y ys H2 hy ⟨S, gs, rfl, ty⟩
      obtain ⟨r, hr', rfl⟩ := ym hy;have hi : i < d.worths.length := by have := (Zc.mp hr').1; have := hx.len; omega
      have e2 : d.worths[i]? = some d.worths[i] := by simp [hi]
      simp only [zd, ze, ↓reduceIte];refine ⟨_, S.seq (.of (hx.row i r _ hr' e2)), fun l hl => ?_⟩;have S3 : Same H2 (upd H2 l (.tup ((d.worths[i]).map V.int))) := Same.upd (Same.refl _) hl;refine ⟨S.trans S3, gs ++ [l], by simp, ?_⟩;rw [Zq, e2];exact (ty.mono S3).snoc zf
    . rintro ys H2 ⟨S, gs, rfl, ty⟩ l hl
      rw [Za, hx.len, Zt] at ty;have S3 : Same H2 (upd H2 l (.lst (gs.map V.ref))) := Same.upd (Same.refl _) hl;refine ⟨_, .of zf, fun l1 hl1 => ?_⟩;generalize upd H2 l (.lst (gs.map V.ref)) = H3 at *;have S4 : Same H3 (upd H3 l1 (.tup (gs.map V.ref))) := Same.upd (Same.refl _) hl1;have h4 : upd H3 l1 (.tup (gs.map V.ref)) l1 = some (.tup (gs.map V.ref)) := zf;generalize upd H3 l1 (.tup (gs.map V.ref)) = H4 at *;have S24 := S.trans (S3.trans S4);refine ⟨x, d, rfl, hx.mono S24, x, d, rfl, hx.mono S24, x.w, rfl, _, .of (hx.mono S24).words, fun l2 hl2 => ⟨by decide, fun p hp => ?_⟩⟩;have S5 : Same H4 (upd H4 l2 (.tup (d.words.map V.str))) := Same.upd (Same.refl _) hl2;have h5 : upd H4 l2 (.tup (d.words.map V.str)) l2 = some (.tup (d.words.map V.str)) := zf;generalize upd H4 l2 (.tup (d.words.map V.str)) = H5 at *;have S6 : Same H5 (upd H5 p (.tup [V.str d.name, V.ref l2, V.ref l1])) := Same.upd (Same.refl _) hp;exact q _ p l2 l1 gs (S24.trans (S5.trans S6)) ⟨zf, S6 _ _ h5, (S5.trans S6) _ _ h4, ty.len, fun i r ns e1 e2 => (S3.trans (S4.trans (S5.trans S6))) _ _ (ty.at' i r ns e1 e2)⟩
theorem zel (B : Bt mg) (C : Ct K mg a) (q8 : FnAt P w K mg base "makes_house" 6 ["outcomes", "hands"] zev) (f_kept_hand : FnAt P w K mg base "kept_hand" 2 ["hand"] zf0) (D : zc K mg "house_of" p9 ["outcomes", "hands"]) : FnAtX P w K mg base "house_of" 7 ["outcomes", "hands"] zbb := by
  refine FnAtX.of D zce (fun vs H Q E h => ?_) (fun f cdv A outer s H vs Q E hr h => ?_)
  . obtain ⟨o, b, outs, xs, ds, rfl, _⟩ := h
    rfl
  . obtain ⟨o, b, outs, xs, ds, rfl, ho, hh, g, q⟩ := h
    refine ⟨_, (@zk _ _ _ _ _ (@y9 _ _ _ _ _ _ _ _ (@wn _ _ _ _ (w5 (zh q8 (hr.mono (by decide)) rfl (za (pv 0) (za (pv 1) (@zb _)))))) (@zg _ _ _ (jc rfl C.q_NoHouse.toErr rfl C.m_NoHouse (rp rfl) (za (@uz _ _ _ _) (@zb _)))) (@yg _)) (@zg _ _ _ (PS.nox (@zl _ _ _ _ (@y7 _ _ _ _ _ (za (vc qq rfl B.tuple tw (za (pv 0) (@zb _))) (za (vc qq rfl B.tuple tw (za (z0 ["hand"] ["outcomes", "hands"] rfl (@z8 _ _ _ _ (pv 1)) (fun _ => (zm (i := 0) (show (["hand", "outcomes", "hands"] : List Str).Nodup by decide +kernel) rfl (Or.inl rfl))) (fun _ => (@zy _)) (fun _ => (zh f_kept_hand (hr.mono (by decide)) rfl (za (pv 0) (@zb _)))) rfl (by decide +kernel) rfl rfl) (@zb _))) (@zb _)))))))), ?_⟩;rw [show start ["outcomes", "hands"] [V.ref o, V.ref b] = [some (V.ref o), some (V.ref b)] from rfl];simp only [zd, ze, ↓reduceIte];have g2 := g.hands;refine ⟨o, b, outs, xs, ds, rfl, ho, hh, g, fun H1 S1 => ?_⟩;simp only [zd, ze, ↓reduceIte];have hh1 := hh.mono S1;have ho1 := S1 _ _ ho;refine iteF ⟨_, .of ho1, fun l hl => ?_⟩;have S2 : Same H1 (upd H1 l (.tup (outs.map V.str))) := Same.upd (Same.refl _) hl;have h2 : upd H1 l (.tup (outs.map V.str)) l = some (.tup (outs.map V.str)) := zf;generalize upd H1 l (.tup (outs.map V.str)) = H2 at *;have hh2 := hh1.mono S2;refine ⟨⟨_, .of hh2.at'⟩, fun d => ?_⟩;refine yb (xs := xs.map fun x => V.ref x.t) (PvDH ds H2) ⟨Same.refl _, [], rfl, rfl, fun i t d e => by simp at e⟩ ?_ ?_ ?_
    . rintro i ys H3 hi ⟨S, hs, rfl, ty⟩
      rw [Za, hh.len] at hi;have ly : hs.length = i := by rw [ty.1, Zj]; omega
      exact ⟨by rw [Za, ly]; exact Zd hi (Zd g2.2 (by decide)), S.seq (.of hh2.at')⟩
    . rintro i y ys H3 hy ⟨S, hs, rfl, ty⟩
      obtain ⟨x, hx, rfl⟩ := ym hy;have hi : i < ds.length := by have := (Zc.mp hx).1; have := hh.len; omega
      have e2 : ds[i]? = some ds[i] := by simp [hi]
      have hm := Zl hi;have r8 : (ds[i]).worths.length <= 8 := by rw [g.rows _ hm]; exact (g.words1 _ hm).2
      simp only [zd, ze, ↓reduceIte];refine ⟨x, ds[i], rfl, (hh2.hand i x ds[i] hx e2).mono S, r8, fun H4 p wd g' gs S4 tp => ?_⟩;refine ⟨S.trans S4, hs ++ [p], by simp, ?_⟩;rw [Zq, e2];exact (ty.mono S4).snoc tp
    . rintro ys H3 ⟨S, hs, rfl, ty⟩ l1 hl1
      rw [Za, hh.len, Zt] at ty;have S4 : Same H3 (upd H3 l1 (.lst (hs.map V.ref))) := Same.upd (Same.refl _) hl1;refine ⟨_, .of zf, fun l2 hl2 => ⟨by decide, fun p hp => ?_⟩⟩;generalize upd H3 l1 (.lst (hs.map V.ref)) = H4 at *;have S5 : Same H4 (upd H4 l2 (.tup (hs.map V.ref))) := Same.upd (Same.refl _) hl2;have h5 : upd H4 l2 (.tup (hs.map V.ref)) l2 = some (.tup (hs.map V.ref)) := zf;generalize upd H4 l2 (.tup (hs.map V.ref)) = H5 at *;have S6 : Same H5 (upd H5 p (.tup [V.ref l, V.ref l2])) := Same.upd (Same.refl _) hp;have S36 := S4.trans (S5.trans S6);exact q _ p l l2 hs (S1.trans (S2.trans (S.trans S36))) ⟨zf, (S.trans S36) _ _ h2, S6 _ _ h5, ty.mono S36⟩
end
section
variable {α : Type}
def aq (r : List α) (wss : List (List α)) : Prop := r.length = wss.length /\ ∀ (j : Nat) (ws : List α), wss[j]? = some ws -> ∃ w, r[j]? = some w /\ w ∈ ws
theorem zhb {rs : List (List α)} {ws : List α} {r : List α} {w : α} (h1 : r ∈ rs) (h2 : w ∈ ws) : r ++ [w] ∈ xt rs ws := by
  simp only [xt, xv, YB, Zp];exact ⟨_, ⟨r, h1, rfl⟩, Zp.mpr ⟨w, h2, rfl⟩⟩
theorem zfu (wss : List (List α)) : ∀ n, n <= wss.length -> ∀ r, r ∈ z7 (wss.take n) ↔ aq r (wss.take n) := by
  intro n
  induction n with
  | zero =>
    intro _ r;simp only [List.take_zero, z7, List.foldl_nil, ZC]
    constructor
    . rintro rfl; exact ⟨rfl, fun j ws e => by simp at e⟩
    . intro h; exact Yi.mp h.1
  | succ n ih =>
    intro hn r;have e : wss[n]? = some wss[n] := Zb (by omega);have et : wss.take (n + 1) = wss.take n ++ [wss[n]] := by rw [Zq, e]; rfl
    have ln : (wss.take n).length = n := by rw [Zj]; omega
    rw [um e]
    constructor
    . intro h
      obtain ⟨q, w, h1, h2, rfl⟩ := jn h;obtain ⟨p1, p2⟩ := (ih (by omega) q).mp h1;rw [ln] at p1;refine ⟨by rw [et, Zo, Zo, p1, ln]; rfl, fun j ws ej => ?_⟩;rw [et] at ej
      by_cases hj : j < n
      . rw [Zg (by omega)] at ej
        obtain ⟨w', a1, a2⟩ := p2 j ws ej;exact ⟨w', by rw [Zg (by omega)]; exact a1, a2⟩
      . rw [Zf (by omega), ln] at ej
        have hj0 : j - n = 0 := by
          have := (Zc.mp ej).1;simp at this;omega
        rw [hj0] at ej;simp at ej;subst ej;exact ⟨w, by rw [Zf (by omega), p1, hj0]; rfl, h2⟩
    . rintro ⟨p1, p2⟩
      rw [et] at p1 p2;have lr : r.length = n + 1 := by rw [p1, Zo, ln]; rfl
      obtain ⟨w, a1, a2⟩ := p2 n wss[n] (by rw [Zf (by omega), ln]; simp)
      have er : r = r.take n ++ [w] := by
        have : r.take (n + 1) = r := ZG (by omega);rw [Zq, a1] at this;exact this.symm
      rw [er];refine zhb ((ih (by omega) _).mpr ⟨by rw [Zj, ln]; omega, fun j ws ej => ?_⟩) a2;have hj : j < n := by have := (Zc.mp ej).1; omega
      obtain ⟨w', b1, b2⟩ := p2 j ws (by rw [Zg (by omega)]; exact ej);exact ⟨w', by rw [List.getElem?_take, if_pos hj]; exact b1, b2⟩
theorem rowsP_iff {wss : List (List α)} {r : List α} : r ∈ z7 wss ↔ aq r wss := by
  have := zfu wss wss.length (Zm _) r
  rwa [Zt] at this
theorem zb4 {rs : List (List α)} {ws : List α} (h1 : rs.Nodup) (h2 : ws.Nodup) : (xt rs ws).Nodup := by
  induction rs with
  | nil => exact YN
  | cons r rs ih =>
    rw [ft];obtain ⟨n1, n2⟩ := ZW.mp h1;refine Yh.mpr ⟨?_, ih n2, fun x hx y hy e => ?_⟩
    . rw [xv]
      refine YR.mpr (List.Pairwise.imp (fun {a b} hab e => hab ?_) h2)
      simpa using e
    . obtain ⟨w, _, rfl⟩ := Zp.mp hx
      obtain ⟨q, w', hq, _, e2⟩ := jn hy;rw [e2] at e;have := (List.append_inj' e rfl).1;exact n1 (this ▸ hq)
theorem zcb {wss : List (List α)} (h : ∀ ws ∈ wss, ws.Nodup) : (z7 wss).Nodup := by
  have : ∀ n, n <= wss.length -> (z7 (wss.take n)).Nodup := by
    intro n
    induction n with
    | zero => intro _; simp [z7]
    | succ n ih =>
      intro hn;have e : wss[n]? = some wss[n] := Zb (by omega);rw [um e];exact zb4 (ih (by omega)) (h _ (Zl _))
  have := this wss.length (Zm _)
  rwa [Zt] at this
def insP (r : List α) (k : Nat) (w : α) : List α := r.take k ++ w :: r.drop k
theorem zg8 {r : List α} {k : Nat} (w : α) (h : k <= r.length) : (insP r k w).length = r.length + 1 := by simp [insP]; omega
theorem zcr {r : List α} {k : Nat} (w : α) (h : k <= r.length) : (insP r k w)[k]? = some w := by
  rw [insP, Zf (by rw [Zj]; omega), Zj, YU h, Nat.sub_self];rfl
end
def numB (c top : Int) : Int := if c % 4 = 0 then c / 4 % 19 - 9 else if c % 4 = 1 then c / 4 % 3 - 1 else if c % 4 = 2 then c / 4 % (2 * 10 ^ 18) - 10 ^ 18 else c / 4 % (2 * top + 1) - top
theorem ca (c : Int) {top : Int} (h0 : 10 ^ 18 <= top) : -top <= numB c top /\ numB c top <= top := by
  unfold numB;have h1 := y4 (c / 4) (show (0 : Int) < 19 by decide);have h2 := y4 (c / 4) (show (0 : Int) < 3 by decide);have h3 := y4 (c / 4) (show (0 : Int) < 2 * 10 ^ 18 by decide);have h4 := y4 (c / 4) (show (0 : Int) < 2 * top + 1 by omega)
  split
  . omega
  . split
    . omega
    . split
      . omega
      . omega
def vo (c : Int) (k : Nat) : Str := if c % 3 = 0 then xq (chr1 (letA (c / 3))) (k + 1) else xq (chr1 (letA (c / 468))) (c / 5 % 4).toNat ++ chr1 (letA (c / 3 + k * (1 + 2 * (c / 78 % 6)))) ++ xq (chr1 (letA (c / 468))) (c / 7 % 4).toNat
def yv (c : Int) (many : Nat) : List Str := (List.range many).map (vo c)
theorem wz (c : Int) (n : Nat) : (yv c n).length = n := by rw [yv, Za, ZO]
theorem gj (c : Int) (n : Nat) : yv c (n + 1) = yv c n ++ [vo c n] := by rw [yv, ZU, Zn]; rfl
theorem jd {d : Nat} {i : Int} (h : d ∈ (chr1 (letA i)).cps.toList) : 97 <= d /\ d <= 122 := by
  have : d = letA i := by simpa [chr1] using h
  rw [this]; exact zim _
theorem da (c : Int) {k : Nat} (hk : k < 8) : og (vo c k) := by
  unfold vo;have h5 := y4 (c / 5) (show (0 : Int) < 4 by decide);have h7 := y4 (c / 7) (show (0 : Int) < 4 by decide);have l1 : ∀ n, (chr1 n).length = 1 := fun n => rfl
  by_cases h : c % 3 = 0
  . rw [if_pos h]
    refine ⟨?_, ?_, fun d hd => jd (k8 hd)⟩ <;> rw [xw, l1] <;> omega
  . rw [if_neg h]
    refine ⟨?_, ?_, fun d hd => ?_⟩
    . rw [uy, uy, xw, xw, l1, l1]
      omega
    . rw [uy, uy, xw, xw, l1, l1]
      omega
    . rcases ge hd with z | z
      . rcases ge z with z | z
        . exact jd (k8 z)
        . exact jd z
      . exact jd (k8 z)
theorem zgf (c : Int) {i j : Nat} (hi : i < 5) (hj : j < 5) (h : vo c i = vo c j) : i = j := by
  unfold vo at h
  by_cases q : c % 3 = 0
  . rw [if_pos q, if_pos q] at h
    have := congrArg Str.length h;rw [xw, xw, show (chr1 (letA (c / 3))).length = 1 from rfl] at this;omega
  . rw [if_neg q, if_neg q] at h
    have e := zil _ h;have hs := y4 (c / 78) (show (0 : Int) < 6 by decide);generalize c / 78 % 6 = st at hs e;have h1 := y4 (c / 3 + i * (1 + 2 * st)) (show (0 : Int) < 26 by decide);have h2 := y4 (c / 3 + j * (1 + 2 * st)) (show (0 : Int) < 26 by decide);have h3 : (c / 3 + i * (1 + 2 * st)) % 26 = (c / 3 + j * (1 + 2 * st)) % 26 := by unfold letA at e; omega
    have : st = 0 \/ st = 1 \/ st = 2 \/ st = 3 \/ st = 4 \/ st = 5 := by omega
    rcases this with rfl | rfl | rfl | rfl | rfl | rfl <;> omega
theorem nh (c : Int) {n : Nat} (hn : n <= 5) : (yv c n).Nodup := by
  unfold yv;refine YR.mpr ?_;refine List.Pairwise.imp_of_mem ?_ (List.nodup_range (n := n));intro i j hi hj hne e;exact hne (zgf c (by have := ZT.mp hi; omega) (by have := ZT.mp hj; omega) e)
theorem i8 (c : Int) {n : Nat} (hn : n <= 8) : ∀ z ∈ yv c n, og z := fun z hz => by
  obtain ⟨i, hi, rfl⟩ := Zp.mp hz;exact da c (by have := ZT.mp hi; omega)
def yj (ns : List Int) : Nat := (1 + z9 ns 0 % 4).toNat
def yz (ns : List Int) : Nat := (1 + z9 ns 0 / 4 % 3).toNat
def wa (ns : List Int) (j : Nat) : Nat := (1 + z9 ns 1 / ([1, 3, 9] : List Int).getD j 0 % 3).toNat
def rowB (ns : List Int) (top : Int) (k n : Nat) : List Int := (List.range n).map fun i => numB (z9 ns (k + i)) top
def ua (ns : List Int) (top : Int) (k n m : Nat) : List (List Int) := (List.range m).map fun r => rowB ns top (k + r * n) n
def x5 (ns : List Int) (n : Nat) : Nat -> Nat
  | 0 => 8
  | j + 1 => x5 ns n j + wa ns j * n
def ar (ns : List Int) (top : Int) (n j : Nat) : HD := ⟨vo (z9 ns 6) j, yv (z9 ns (3 + j)) (wa ns j), ua ns top (x5 ns n j) n (wa ns j)⟩
def wo (ns : List Int) (top : Int) (n m : Nat) : List HD := (List.range m).map (ar ns top n)
theorem zck (ns : List Int) (top : Int) (n m : Nat) : wo ns top n (m + 1) = wo ns top n m ++ [ar ns top n m] := by rw [wo, ZU, Zn]; rfl
theorem ze9 (ns : List Int) (top : Int) (k n : Nat) : rowB ns top k (n + 1) = rowB ns top k n ++ [numB (z9 ns (k + n)) top] := by rw [rowB, ZU, Zn]; rfl
theorem gx (ns : List Int) (top : Int) (k n : Nat) : (rowB ns top k n).length = n := by rw [rowB, Za, ZO]
theorem zd4 (ns : List Int) (top : Int) (k n m : Nat) : ua ns top k n (m + 1) = ua ns top k n m ++ [rowB ns top (k + m * n) n] := by rw [ua, ZU, Zn]; rfl
theorem bg (ns : List Int) (top : Int) (k n m : Nat) : (ua ns top k n m).length = m := by rw [ua, Za, ZO]
theorem pz (ns : List Int) : 1 <= yj ns /\ yj ns <= 4 := by
  have := y4 (z9 ns 0) (show (0 : Int) < 4 by decide);unfold yj; omega
theorem ur (ns : List Int) : 1 <= yz ns /\ yz ns <= 3 := by
  have := y4 (z9 ns 0 / 4) (show (0 : Int) < 3 by decide);unfold yz; omega
theorem sr (ns : List Int) (j : Nat) : 1 <= wa ns j /\ wa ns j <= 3 := by
  have := y4 (z9 ns 1 / ([1, 3, 9] : List Int).getD j 0) (show (0 : Int) < 3 by decide);unfold wa; omega
theorem w9 {ns : List Int} {top : Int} {n m : Nat} {d : HD} (h : d ∈ wo ns top n m) : ∃ j, j < m /\ d = ar ns top n j := by
  obtain ⟨j, hj, rfl⟩ := Zp.mp h;exact ⟨j, ZT.mp hj, rfl⟩
theorem zbx (ns : List Int) {top : Int} (h0 : 10 ^ 18 <= top) (h1 : top < 10 ^ 60) {outs : List Str} (ho : outs = yv (z9 ns 2) (yj ns)) : GoodHouse outs (wo ns top (yj ns) (yz ns)) where
  outs1 := by rw [ho, wz]; have := pz ns; omega
  outsG := by rw [ho]; exact i8 _ (by have := pz ns; omega)
  outsD := by rw [ho]; exact nh _ (by have := pz ns; omega)
  hands := by rw [wo, Za, ZO]; have := ur ns; omega
  handsG := fun d hd => by
    obtain ⟨j, hj, rfl⟩ := w9 hd;exact da _ (by have := ur ns; omega)
  handsD := by
    have : (wo ns top (yj ns) (yz ns)).map HD.name = yv (z9 ns 6) (yz ns) := by rw [wo, yv, YJ]; rfl
    rw [this];exact nh _ (by have := ur ns; omega)
  words1 := fun d hd => by
    obtain ⟨j, hj, rfl⟩ := w9 hd
    show 1 <= (yv _ _).length /\ (yv _ _).length <= 8
    rw [wz]; have := sr ns j; omega
  wordsG := fun d hd => by
    obtain ⟨j, hj, rfl⟩ := w9 hd;exact i8 _ (by have := sr ns j; omega)
  wordsD := fun d hd => by
    obtain ⟨j, hj, rfl⟩ := w9 hd;exact nh _ (by have := sr ns j; omega)
  rows := fun d hd => by
    obtain ⟨j, hj, rfl⟩ := w9 hd
    show (ua _ _ _ _ _).length = (yv _ _).length
    rw [bg, wz]
  cols := fun d hd r hr => by
    obtain ⟨j, hj, rfl⟩ := w9 hd;obtain ⟨i, _, rfl⟩ := Zp.mp hr;rw [gx, ho, wz]
  nums := fun d hd r hr n hn => by
    obtain ⟨j, hj, rfl⟩ := w9 hd;obtain ⟨i, _, rfl⟩ := Zp.mp hr;obtain ⟨k, _, rfl⟩ := Zp.mp hn;have := ca (z9 ns (x5 ns (yj ns) j + i * yj ns + k)) h0
    constructor <;> omega
  few := by
    refine Zd (ziq (n := yz ns) (t := 3) (fun x hx => ?_) (by rw [Za, wo, Za, ZO])) ?_
    . obtain ⟨d, hd, rfl⟩ := Zp.mp hx
      obtain ⟨j, hj, rfl⟩ := w9 hd
      show (yv _ _).length <= _
      rw [wz];exact (sr ns j).2
    . exact Zd (Nat.pow_le_pow_right (by decide) (ur ns).2) (by decide)
theorem NewHands.from {H0 H H' : Hp} {b : Addr} {xs : List HX} {ds : List HD} (g : NewHands H H' b xs ds) (S : Same H0 H) : NewHands H0 H' b xs ds :=
  ⟨S.trans g.same, S.free g.nb, g.at', g.len, g.hand, fun y hy => S.free (g.new y hy), g.old, g.nd, g.ne⟩
def di : Sp := fun vs H Q _ => ∃ c top : Int, vs = [.int c, .int top] /\ 10 ^ 18 <= top /\ top < 10 ^ 60 /\ Q (.int (numB c top)) H
def fc : Sp := fun vs H Q _ => ∃ (c : Int) (many : Nat), vs = [.int c, .int many] /\ many <= 8 /\ ∀ H' l, Same H H' -> H l = none -> H' l = some (.lst ((yv c many).map V.str)) -> Q (.ref l) H'
def zar (K : Fg) : Sp := fun vs H Q _ => ∃ (a : Addr) (ns : List Int) (n : Nat) (top : Int), vs = [.ref a, .int n, .int top] /\ SqL K H a (ns.map V.int) /\ 1 <= n /\ n <= 4 /\ 10 ^ 18 <= top /\ top < 10 ^ 60 /\
  ∀ H' (b : Addr) (xs : List HX), NewHands H H' b xs (wo ns top n (yz ns)) -> Q (.ref b) H'
def PvHB (a cl b : Addr) (ns : List Int) (n : Nat) (top : Int) (H1 : Hp) (j : Nat) : L2.St -> Hp -> Prop := fun σ H' => ∃ (xs : List HX) (t1 t2 t3 t4 : Option V), NewHands H1 H' b xs (wo ns top n j) /\ σ = [some (V.ref a), some (V.int n), some (V.int top), some (V.int (yz ns)), some (V.ref cl), some (V.ref b), some (V.int (x5 ns n j)), t1, t2, t3, t4]
def PvGB (a cl b g : Addr) (ns : List Int) (n : Nat) (top : Int) (H5 : Hp) (j : Nat) (m : Nat) : L2.St -> Hp -> Prop := fun σ H' => ∃ (gs : List Addr) (t4 : Option V), NewGrid H5 H' g gs (ua ns top (x5 ns n j) n m) m n /\ σ = [some (V.ref a), some (V.int n), some (V.int top), some (V.int (yz ns)), some (V.ref cl), some (V.ref b), some (V.int ((x5 ns n j + m * n : Nat) : Int)), some (V.int j), some (V.int (wa ns j)), some (V.ref g), t4]
def PvRB (ns : List Int) (top : Int) (H6 : Hp) (k : Nat) (i : Nat) (ys : List V) (H' : Hp) : Prop := H' = H6 /\ ys = (rowB ns top k i).map V.int
def PvNB (c : Int) (many : Nat) (ot : Str) (l : Addr) (H : Hp) (i : Nat) (σ : L2.St) (H' : Hp) : Prop := Same H H' /\ H' l = some (.lst ((yv c i).map V.str)) /\ ∃ t1 t2 t3 : Option V, σ = [some (V.int c), some (V.int many), some (V.str (Str.ofString "abcdefghijklmnopqrstuvwxyz")), some (V.str ot), some (V.ref l), t1, t2, t3]
section
variable {P : Program} {w : World} {K : Fg} {mg : Str -> Option Value} {base : Heap}
theorem yr (B : Bt mg) (D : zc K mg "_law_cell" p7 ["script", "k"]) : FnAt P w K mg base "_law_cell" 1 ["script", "k"] (nu K) := by
  refine FnAt.of D zb5 (fun vs H Q E h => ?_) (fun f cdv A outer s H vs Q E hr h => ?_)
  . obtain ⟨a, ns, k, rfl, _⟩ := h
    rfl
  . obtain ⟨a, ns, k, rfl, hS, q⟩ := h
    refine ⟨_, (@zk _ _ _ _ _ (@y9 _ _ _ _ _ _ _ _ (@y6 _ _ _ _ _ _ _ _ ao (pv 1) (zq zt rfl B.len yi (za (pv 0) (@zb _))) (yu _)) (@zg _ _ _ (@zl _ _ _ _ (@zx _ _ _ _ _ _ _ ye (pv 0) (pv 1) (fun _ _ => rfl)))) (@yg _)) (@zg _ _ _ (@zl _ _ _ _ (@zj _ _ _ _)))), ?_⟩;rw [show start ["script", "k"] [V.ref a, V.int k] = [some (V.ref a), some (V.int k)] from rfl];simp only [zd, ze, ↓reduceIte];refine ⟨ns.map V.int, .inl hS, ?_⟩;rw [Za];unfold z9 at q;refine ite2 (fun h => ?_) (fun h => ?_)
    . have h' : (k : Int) < ns.length := of_decide_eq_true h
      have hlt : k < ns.length := by omega
      have e : ns[k]? = some ns[k] := by simp [hlt]
      have e2 := ya (xs := ns.map V.int) (j := k) (v := V.int ns[k]) (by rw [Ze, e]; rfl);rw [Zk, e] at q;exact ⟨ns.map V.int, hS, _, e2, q⟩
    . have h' : ¬ (k : Int) < ns.length := fun z => h (decide_eq_true z)
      rw [Zk, YC (by omega)] at q;exact q
theorem wq (D : zc K mg "_law_number" ra ["cell", "top"]) : FnAt P w K mg base "_law_number" 1 ["cell", "top"] di := by
  refine FnAt.of D ad (fun vs H Q E h => ?_) (fun f cdv A outer s H vs Q E hr h => ?_)
  . obtain ⟨c, top, rfl, _⟩ := h
    rfl
  . obtain ⟨c, top, rfl, t0, t1, q⟩ := h
    refine ⟨_, (@zk _ _ _ _ _ (@y9 _ _ _ _ _ _ _ _ (@y6 _ _ _ _ _ _ _ _ f7 (@zp _ _ _ _ _ _ _ _ x6 (pv 0) (@zj _ _ _ _)) (@zj _ _ _ _) (yu _)) (@zg _ _ _ (@zl _ _ _ _ (@zp _ _ _ _ _ _ _ _ sv (@zp _ _ _ _ _ _ _ _ x6 (@zp _ _ _ _ _ _ _ _ wx (pv 0) (@zj _ _ _ _)) (@zj _ _ _ _)) (@zj _ _ _ _)))) (@yg _)) (@zk _ _ _ _ _ (@y9 _ _ _ _ _ _ _ _ (@y6 _ _ _ _ _ _ _ _ f7 (@zp _ _ _ _ _ _ _ _ x6 (pv 0) (@zj _ _ _ _)) (@zj _ _ _ _) (yu _)) (@zg _ _ _ (@zl _ _ _ _ (@zp _ _ _ _ _ _ _ _ sv (@zp _ _ _ _ _ _ _ _ x6 (@zp _ _ _ _ _ _ _ _ wx (pv 0) (@zj _ _ _ _)) (@zj _ _ _ _)) (@zj _ _ _ _)))) (@yg _)) (@zk _ _ _ _ _ (@y9 _ _ _ _ _ _ _ _ (@y6 _ _ _ _ _ _ _ _ f7 (@zp _ _ _ _ _ _ _ _ x6 (pv 0) (@zj _ _ _ _)) (@zj _ _ _ _) (yu _)) (@zg _ _ _ (@zl _ _ _ _ (@zp _ _ _ _ _ _ _ _ sv (@zp _ _ _ _ _ _ _ _ x6 (@zp _ _ _ _ _ _ _ _ wx (pv 0) (@zj _ _ _ _)) (@zp _ _ _ _ _ _ _ _ jp (@zj _ _ _ _) (@zp _ _ _ _ _ _ _ _ l5 (@zj _ _ _ _) (@zj _ _ _ _)))) (@zp _ _ _ _ _ _ _ _ l5 (@zj _ _ _ _) (@zj _ _ _ _))))) (@yg _)) (@zg _ _ _ (@zl _ _ _ _ (@zp _ _ _ _ _ _ _ _ sv (@zp _ _ _ _ _ _ _ _ x6 (@zp _ _ _ _ _ _ _ _ wx (pv 0) (@zj _ _ _ _)) (@zp _ _ _ _ _ _ _ _ y8 (@zp _ _ _ _ _ _ _ _ jp (@zj _ _ _ _) (pv 1)) (@zj _ _ _ _))) (pv 1))))))), ?_⟩;rw [show start ["cell", "top"] [V.int c, V.int top] = [some (V.int c), some (V.int top)] from rfl];simp only [zd, ze, ↓reduceIte];unfold numB at q;refine ⟨by decide, rfl, ite2 (fun h => ?_) (fun h => ?_)⟩
    . rw [if_pos (of_decide_eq_true h)] at q
      exact ⟨⟨by decide, by decide⟩, by decide, q⟩
    . rw [if_neg (fun z => h (decide_eq_true z))] at q
      refine ⟨by decide, rfl, ite2 (fun h => ?_) (fun h => ?_)⟩
      . rw [if_pos (of_decide_eq_true h)] at q
        exact ⟨⟨by decide, by decide⟩, by decide, q⟩
      . rw [if_neg (fun z => h (decide_eq_true z))] at q
        refine ⟨by decide, rfl, ite2 (fun h => ?_) (fun h => ?_)⟩
        . rw [if_pos (of_decide_eq_true h)] at q
          exact ⟨⟨by decide, by decide⟩, ⟨by decide, by decide, by decide⟩, .inl ⟨by decide, by decide⟩, by decide, ⟨by decide, by decide, by decide⟩, q⟩
        . rw [if_neg (fun z => h (decide_eq_true z))] at q
          exact ⟨⟨by decide, by decide⟩, .inl ⟨by decide, by decide⟩, by omega, q⟩
end
section
variable {P : Program} {w : World} {K : Fg} {mg : Str -> Option Value} {base : Heap}
theorem vy (B : Bt mg) (D : zc K mg "_law_names" yh ["cell", "many"]) : FnAt P w K mg base "_law_names" 1 ["cell", "many"] fc := by
  refine FnAt.of D sc_law_names (fun vs H Q E h => ?_) (fun f cdv A outer s H vs Q E hr h => ?_)
  . obtain ⟨c, many, rfl, _⟩ := h
    rfl
  . obtain ⟨c, many, rfl, hm, q⟩ := h
    have b5 : PSs (cxOf CX0 P w K mg base ["cell", "many", "letters", "other", "names", "k", "sign", "head"] "_law_names" (zi yh) f cdv A outer s H E).nox ((xm yh).drop 5) _ := (@zik _ _ _ _ _ (@zl _ _ _ _ (pv 4)) rfl rfl);have b4 : PSs (cxOf CX0 P w K mg base ["cell", "many", "letters", "other", "names", "k", "sign", "head"] "_law_names" (zi yh) f cdv A outer s H E).nox ((xm yh).drop 4) _ := (@ig _ _ _ _ _ _ (yx PassesOwn.never rfl (yk rfl B.range (za (pv 1) (@zb _))) (zm (i := 5) sc_law_names.nd rfl (Or.inl rfl)) (@zk _ _ _ _ _ (zz (i := 6) sc_law_names.nd rfl (Or.inl rfl) (@zx _ _ _ _ _ _ _ zbr (pv 2) (@zp _ _ _ _ _ _ _ _ x6 (@zp _ _ _ _ _ _ _ _ y8 (@zp _ _ _ _ _ _ _ _ wx (pv 0) (@zj _ _ _ _)) (@zp _ _ _ _ _ _ _ _ jp (pv 5) (@zp _ _ _ _ _ _ _ _ y8 (@zj _ _ _ _) (@zp _ _ _ _ _ _ _ _ jp (@zj _ _ _ _) (@zp _ _ _ _ _ _ _ _ x6 (@zp _ _ _ _ _ _ _ _ wx (pv 0) (@zj _ _ _ _)) (@zj _ _ _ _)))))) (@zj _ _ _ _)) (fun _ _ => rfl))) (@zk _ _ _ _ _ (zz (i := 7) sc_law_names.nd rfl (Or.inl rfl) (@zp _ _ _ _ _ _ _ _ cm (pv 3) (@zp _ _ _ _ _ _ _ _ x6 (@zp _ _ _ _ _ _ _ _ wx (pv 0) (@zj _ _ _ _)) (@zj _ _ _ _)))) (@zg _ _ _ (vx (qk PySem.F.plainAttrs_list PySem.F.slot_list_append PySem.F.type_list_append t7 (pv 4) (za (@zp _ _ _ _ _ _ _ _ fj (@zp _ _ _ _ _ _ _ _ fj (pv 7) (pv 6)) (@zp _ _ _ _ _ _ _ _ cm (pv 3) (@zp _ _ _ _ _ _ _ _ x6 (@zp _ _ _ _ _ _ _ _ wx (pv 0) (@zj _ _ _ _)) (@zj _ _ _ _)))) (@zb _)))))))) rfl @b5);have b3 : PSs (cxOf CX0 P w K mg base ["cell", "many", "letters", "other", "names", "k", "sign", "head"] "_law_names" (zi yh) f cdv A outer s H E).nox ((xm yh).drop 3) _ := (@ig _ _ _ _ _ _ (zz (i := 4) sc_law_names.nd rfl (Or.inl rfl) (@wj _ _ _ _ (@zb _))) rfl @b4);have b2 : PSs (cxOf CX0 P w K mg base ["cell", "many", "letters", "other", "names", "k", "sign", "head"] "_law_names" (zi yh) f cdv A outer s H E).nox ((xm yh).drop 2) _ := (@ig _ _ _ _ _ _ (zz (i := 3) sc_law_names.nd rfl (Or.inl rfl) (@zx _ _ _ _ _ _ _ zbr (pv 2) (@zp _ _ _ _ _ _ _ _ x6 (@zp _ _ _ _ _ _ _ _ wx (pv 0) (@zj _ _ _ _)) (@zj _ _ _ _)) (fun _ _ => rfl))) rfl @b3);have b1 : PSs (cxOf CX0 P w K mg base ["cell", "many", "letters", "other", "names", "k", "sign", "head"] "_law_names" (zi yh) f cdv A outer s H E).nox ((xm yh).drop 1) _ := (@ig _ _ _ _ _ _ (@y9 _ _ _ _ _ _ _ _ (@y6 _ _ _ _ _ _ _ _ f7 (@zp _ _ _ _ _ _ _ _ x6 (pv 0) (@zj _ _ _ _)) (@zj _ _ _ _) (yu _)) (@zg _ _ _ (@zl _ _ _ _ (z0 ["k"] ["cell", "many", "letters", "other", "names", "k?", "sign", "head"] rfl (yk rfl B.range (za (pv 1) (@zb _))) (fun _ => (zm (i := 0) (show (["k", "cell", "many", "letters", "other", "names", "k?", "sign", "head"] : List Str).Nodup by decide +kernel) rfl (Or.inl rfl))) (fun _ => (@zy _)) (fun _ => (@zp _ _ _ _ _ _ _ _ cm (@zx _ _ _ _ _ _ _ zbr (pv 3) (@zp _ _ _ _ _ _ _ _ x6 (@zp _ _ _ _ _ _ _ _ wx (pv 1) (@zj _ _ _ _)) (@zj _ _ _ _)) (fun _ _ => rfl)) (@zp _ _ _ _ _ _ _ _ y8 (pv 0) (@zj _ _ _ _)))) rfl (by decide +kernel) rfl rfl))) (@yg _)) rfl @b2);have b0 : PSs (cxOf CX0 P w K mg base ["cell", "many", "letters", "other", "names", "k", "sign", "head"] "_law_names" (zi yh) f cdv A outer s H E).nox ((xm yh).drop 0) _ := (@ig _ _ _ _ _ _ (zz (i := 2) sc_law_names.nd rfl (Or.inr rfl) (@uz _ _ _ _)) rfl @b1);have b_ := @zh2 _ _ _ @b0;refine ⟨_, @b_, ?_⟩;rw [show start ["cell", "many", "letters", "other", "names", "k", "sign", "head"] [V.int c, V.int many] = [some (V.int c), some (V.int many), none, none, none, none, none, none] from rfl];simp only [zd, ze, ↓reduceIte];have e5 := y4 (c / 5) (show (0 : Int) < 4 by decide);have e7 := y4 (c / 7) (show (0 : Int) < 4 by decide);have e78 := y4 (c / 78) (show (0 : Int) < 6 by decide);have l1 : ∀ n, (chr1 n).length = 1 := fun n => rfl
    refine ⟨by decide, rfl, ite2 (fun h => ?_) (fun h => ?_)⟩
    . have h := of_decide_eq_true h
      refine ⟨by omega, by omega, fun d => ?_⟩;rw [Zw];refine xz (fun i ys H' => H' = H /\ ys = (yv c i).map V.str) ⟨rfl, rfl⟩ ?_ ?_ ?_
      . rintro i ys H' hi ⟨rfl, rfl⟩
        rw [Za, wz];exact Zd (show i <= 9 by omega) (by decide)
      . rintro i ys H' hi ⟨rfl, rfl⟩
        simp only [zd, ze, ↓reduceIte];have hl1 := zan (YI (c / 3) (show (26 : Int) ≠ 0 by decide)) (Yl (c / 3) (show (0 : Int) < 26 by decide));refine ⟨⟨by decide, by decide⟩, by decide, by decide, _, hl1, by omega, by omega, ?_, ?_⟩
        . show 1 * _ <= _
          rw [Nat.one_mul];exact Zd (show ((i : Int) + 1).toNat <= 10 by omega) (by decide)
        . rw [gj, vo, if_pos h, Zn, show ((i : Int) + 1).toNat = i + 1 by omega]
          rfl
      . rintro ys H' ⟨rfl, rfl⟩ l hl
        exact q _ l (Same.upd (Same.refl _) hl) hl zf
    . have h : ¬ _ := fun z => h (decide_eq_true z)
      have hl1 := zan (YI (c / 468) (show (26 : Int) ≠ 0 by decide)) (Yl (c / 468) (show (0 : Int) < 26 by decide));refine ⟨⟨by decide, by decide⟩, by decide, by decide, _, hl1, by decide, fun l hl => ?_⟩;refine ⟨by omega, by omega, ?_⟩;rw [Zw];refine xr (PvNB c many (chr1 (letA (c / 468))) l H) ⟨Same.upd (Same.refl _) hl, zf, _, _, _, rfl⟩ ?_ ?_
      . rintro i σ H' hi ⟨S, hl', t1, t2, t3, rfl⟩
        simp only [zd, ze, ↓reduceIte];have hb := zan (YI (c / 3 + i * (1 + 2 * (c / 78 % 6))) (show (26 : Int) ≠ 0 by decide)) (Yl (c / 3 + i * (1 + 2 * (c / 78 % 6))) (show (0 : Int) < 26 by decide));refine ⟨⟨by decide, by decide⟩, ⟨by decide, by decide⟩, by decide, .inl ⟨by decide, by decide⟩, .inl ⟨by omega, by omega⟩, by decide, by decide, _, hb, ⟨by decide, by decide⟩, by decide, by omega, by omega, ?_, .inl ⟨rfl, _, .of hl'⟩, ?_, ⟨by decide, by decide⟩, by decide, by omega, by omega, ?_, ?_, _, hl', ?_, Same.upd S hl, ?_, _, _, _, rfl⟩
        . rw [l1]; omega
        . rw [xw, l1]
          exact Zd (show _ <= 20 by show 1 * _ + 1 <= 20; omega) (by decide)
        . rw [l1]; omega
        . rw [uy, xw, xw, l1]
          exact Zd (show _ <= 30 by show 1 * _ + 1 + 1 * _ <= 30; omega) (by decide)
        . rw [Za, wz]
          exact Zh hi (Zd hm (by decide))
        . rw [zf, gj, vo, if_neg h, Zn]
          rfl
      . rintro σ H' ⟨S, hl', t1, t2, t3, rfl⟩
        simp only [zd, ze, ↓reduceIte];exact q _ l S hl hl'
theorem mz (B : Bt mg) (yr : FnAt P w K mg base "_law_cell" 1 ["script", "k"] (nu K)) (wq : FnAt P w K mg base "_law_number" 1 ["cell", "top"] di) (vy : FnAt P w K mg base "_law_names" 1 ["cell", "many"] fc)
    (D : zc K mg "_law_hands" qe ["script", "places", "top"]) : FnAt P w K mg base "_law_hands" 2 ["script", "places", "top"] (zar K) := by
  refine FnAt.of D sc_law_hands (fun vs H Q E h => ?_) (fun f cdv A outer s H vs Q E hr h => ?_)
  . obtain ⟨a, ns, n, top, rfl, _⟩ := h
    rfl
  . obtain ⟨a, ns, n, top, rfl, hS, n1, n4, t0, t1, q⟩ := h
    refine ⟨_, (@zk _ _ _ _ _ (zz (i := 3) sc_law_hands.nd rfl (Or.inl rfl) (@zp _ _ _ _ _ _ _ _ y8 (@zj _ _ _ _) (@zp _ _ _ _ _ _ _ _ x6 (@zp _ _ _ _ _ _ _ _ wx (zh yr (hr.mono (by decide)) rfl (za (pv 0) (za (@zj _ _ _ _) (@zb _)))) (@zj _ _ _ _)) (@zj _ _ _ _)))) (@zk _ _ _ _ _ (zz (i := 4) sc_law_hands.nd rfl (Or.inl rfl) (zh vy (hr.mono (by decide)) rfl (za (zh yr (hr.mono (by decide)) rfl (za (pv 0) (za (@zj _ _ _ _) (@zb _)))) (za (@zj _ _ _ _) (@zb _))))) (@zk _ _ _ _ _ (zz (i := 5) sc_law_hands.nd rfl (Or.inl rfl) (@wj _ _ _ _ (@zb _))) (@zk _ _ _ _ _ (zz (i := 6) sc_law_hands.nd rfl (Or.inr rfl) (@zj _ _ _ _)) (@zk _ _ _ _ _ (yx PassesOwn.never rfl (yk rfl B.range (za (pv 3) (@zb _))) (zm (i := 7) sc_law_hands.nd rfl (Or.inl rfl)) (@zk _ _ _ _ _ (zz (i := 8) sc_law_hands.nd rfl (Or.inl rfl) (@zp _ _ _ _ _ _ _ _ y8 (@zj _ _ _ _) (@zp _ _ _ _ _ _ _ _ x6 (@zp _ _ _ _ _ _ _ _ wx (zh yr (hr.mono (by decide)) rfl (za (pv 0) (za (@zj _ _ _ _) (@zb _)))) (@zx _ _ _ _ _ _ _ ye (@wj _ _ _ _ (za (@zj _ _ _ _) (za (@zj _ _ _ _) (za (@zj _ _ _ _) (@zb _))))) (pv 7) (fun _ _ => rfl))) (@zj _ _ _ _)))) (@zk _ _ _ _ _ (zz (i := 9) sc_law_hands.nd rfl (Or.inl rfl) (@wj _ _ _ _ (@zb _))) (@zk _ _ _ _ _ (yx PassesOwn.never rfl (yk rfl B.range (za (pv 8) (@zb _))) (zm (i := 10) sc_law_hands.nd rfl (Or.inl rfl)) (@zk _ _ _ _ _ (vx (qk PySem.F.plainAttrs_list PySem.F.slot_list_append PySem.F.type_list_append t7 (pv 9) (za (z0 ["j"] ["script", "places", "top", "many", "called", "hands", "spot", "k", "size", "worths", "t"] rfl (yk rfl B.range (za (pv 1) (@zb _))) (fun _ => (zm (i := 0) (show (["j", "script", "places", "top", "many", "called", "hands", "spot", "k", "size", "worths", "t"] : List Str).Nodup by decide +kernel) rfl (Or.inl rfl))) (fun _ => (@zy _)) (fun _ => (zh wq (hr.mono (by decide)) rfl (za (zh yr (hr.mono (by decide)) rfl (za (pv 1) (za (@zp _ _ _ _ _ _ _ _ y8 (pv 7) (pv 0)) (@zb _)))) (za (pv 3) (@zb _))))) rfl (by decide +kernel) rfl rfl) (@zb _)))) (@zg _ _ _ (zz (i := 6) sc_law_hands.nd rfl (Or.inr rfl) (@zp _ _ _ _ _ _ _ _ y8 (pv 6) (pv 1)))))) (@zg _ _ _ (vx (qk PySem.F.plainAttrs_list PySem.F.slot_list_append PySem.F.type_list_append t7 (pv 5) (@za _ _ _ _ _ (@y7 _ _ _ _ _ (@za _ _ _ _ _ (@zx _ _ _ _ _ _ _ ye (pv 4) (pv 7) (fun _ _ => rfl)) (@za _ _ _ _ _ (zh vy (hr.mono (by decide)) rfl (@za _ _ _ _ _ (zh yr (hr.mono (by decide)) rfl (@za _ _ _ _ _ (pv 0) (@za _ _ _ _ _ (@zp _ _ _ _ _ _ _ _ y8 (@zj _ _ _ _) (pv 7)) (@zb _) (yd nofun)) (yd nofun))) (@za _ _ _ _ _ (pv 8) (@zb _) (yd nofun)) (yd nofun))) (@za _ _ _ _ _ (pv 9) (@zb _) (yd nofun)) (yd nofun)) (yd nofun))) (@zb _) (yd nofun))))))))) (@zg _ _ _ (@zl _ _ _ _ (pv 5)))))))), ?_⟩;rw [show start ["script", "places", "top", "many", "called", "hands", "spot", "k", "size", "worths", "t"] [V.ref a, V.int n, V.int top] = [some (V.ref a), some (V.int n), some (V.int top), none, none, none, none, none, none, none, none] from rfl];simp only [zd, ze, ↓reduceIte];have hN := ur ns;have h0 := y4 (z9 ns 0 / 4) (show (0 : Int) < 3 by decide);refine ⟨a, ns, 0, rfl, hS, ?_⟩;simp only [zd, ze, ↓reduceIte];refine ⟨⟨by decide, by decide⟩, by decide, ?_⟩;rw [show 1 + z9 ns 0 / 4 % 3 = ((yz ns : Nat) : Int) by unfold yz; omega];refine ⟨a, ns, 6, rfl, hS, z9 ns 6, 3, rfl, by decide, fun H1 cl S1 hcl hcl1 => ?_⟩;simp only [zd, ze, ↓reduceIte];refine ⟨by decide, fun b hb => ?_⟩;refine ⟨by omega, by omega, ?_⟩;rw [Zw];refine xr (PvHB a cl b ns n top H1) ⟨[], _, _, _, _, NewHands.nil (Same.refl _) hb, rfl⟩ ?_ ?_
    . rintro j σ H' hj ⟨xs, t1', t2', t3', t4', G, rfl⟩
      simp only [zd, ze, ↓reduceIte];have SA := S1.trans G.same;refine ⟨a, ns, 1, rfl, SA.seq hS, by decide, fun p1 hp1 => ?_⟩;have S2 : Same H' (upd H' p1 (.lst [V.int 1, V.int 3, V.int 9])) := Same.upd (Same.refl _) hp1;have hl2 : upd H' p1 (.lst [V.int 1, V.int 3, V.int 9]) p1 = some (.lst [V.int 1, V.int 3, V.int 9]) := zf;generalize upd H' p1 (.lst [V.int 1, V.int 3, V.int 9]) = H2 at *
      have hdiv : [V.int 1, V.int 3, V.int 9][j]? = some (V.int (([1, 3, 9] : List Int).getD j 0)) /\ 0 < ([1, 3, 9] : List Int).getD j 0 /\ ([1, 3, 9] : List Int).getD j 0 < 1073741824 := by
        have : ∀ k : _root_.Fin 3, [V.int 1, V.int 3, V.int 9][k.val]? = some (V.int (([1, 3, 9] : List Int).getD k.val 0)) /\ 0 < ([1, 3, 9] : List Int).getD k.val 0 /\ ([1, 3, 9] : List Int).getD k.val 0 < 1073741824 := by decide
        exact this ⟨j, by omega⟩
      refine ⟨_, .of hl2, _, ya hdiv.1, _, rfl, _, rfl, ⟨hdiv.2.1, hdiv.2.2⟩, by decide, by decide, fun g hg => ?_⟩;have hwN := sr ns j;have h3 := y4 (z9 ns 1 / ([1, 3, 9] : List Int).getD j 0) (show (0 : Int) < 3 by decide);refine ⟨by omega, by omega, ?_⟩;rw [show (1 + z9 ns 1 / ([1, 3, 9] : List Int).getD j 0 % 3).toNat = wa ns j from rfl, show 1 + z9 ns 1 / ([1, 3, 9] : List Int).getD j 0 % 3 = ((wa ns j : Nat) : Int) by unfold wa; omega];have SB := SA.trans S2;have GG := G.more S2;refine xr (PvGB a cl b g ns n top H2 j) ⟨[], _, NewGrid.nil (Same.refl _) hg, by rw [Nat.zero_mul, Nat.add_zero]⟩ ?_ ?_
      . rintro m σ H5 hm ⟨gs, t4, NG, rfl⟩
        simp only [zd, ze, ↓reduceIte];have So : Same H H5 := SB.trans NG.same;refine ⟨.inl ⟨rfl, _, .of NG.at'⟩, by omega, by omega, fun d => ?_⟩;rw [Zw];refine xz (PvRB ns top H5 (x5 ns n j + m * n)) ⟨rfl, rfl⟩ ?_ ?_ ?_
        . rintro i ys H6 hi ⟨rfl, rfl⟩
          rw [Za, gx];exact Zd (show i <= 8 by omega) (by decide)
        . rintro i ys H6 hi ⟨rfl, rfl⟩
          simp only [zd, ze, ↓reduceIte];refine ⟨a, ns, x5 ns n j + m * n + i, ?_, So.seq hS, z9 ns (x5 ns n j + m * n + i), top, rfl, t0, t1, rfl, ?_⟩
          . rw [show ((x5 ns n j + m * n : Nat) : Int) + (i : Int) = ((x5 ns n j + m * n + i : Nat) : Int) by omega]
          rw [ze9, Zn];rfl
        . rintro ys H6 ⟨rfl, rfl⟩ l hl
          have hgl : g ≠ l := y0 NG.at' hl;refine ⟨gs.map V.ref, by rw [zr hgl]; exact NG.at', ?_, ?_⟩
          . rw [Za, NG.lb]
            exact Zh hm (Zd hwN.2 (by decide))
          . have NG2 := NG.laid (c := l) (o := .lst ((rowB ns top (x5 ns n j + m * n) n).map V.int)) hl
            have NG3 := NG2.snoc (c := l) (ns := rowB ns top (x5 ns n j + m * n) n) (NG.same.free hl) zf (gx ..) (fun z => by
              obtain ⟨k, hk, e⟩ := Zy z;have e1 : gs[k]? = some l := by rw [<- e]; simp [hk]
              have hk2 : k < (ua ns top (x5 ns n j) n m).length := by rw [NG.lr, <- NG.lb]; exact hk
              have e2 : (ua ns top (x5 ns n j) n m)[k]? = some (ua ns top (x5 ns n j) n m)[k] := by simp [hk2]
              have := (NG.row k l _ e1 e2).1
              rw [hl] at this; cases this) (Ne.symm hgl)
            refine ⟨gs ++ [l], some (V.int (m : Nat)), ?_, ?_⟩
            . rw [zd4]
              exact NG3
            . rw [show ((x5 ns n j + m * n : Nat) : Int) + (n : Int) = ((x5 ns n j + (m + 1) * n : Nat) : Int) by rw [Nat.succ_mul]; omega]
      . rintro σ H5 ⟨gs, t4, NG, rfl⟩
        simp only [zd, ze, ↓reduceIte];have S5 := NG.same;have GH := GG.more S5;have hb5 := GH.at';have So : Same H H5 := SB.trans NG.same;have hcl5 : H5 cl = some (.lst ((yv (z9 ns 6) 3).map V.str)) := (G.same.trans (S2.trans S5)) _ _ hcl1;refine ⟨.inl ⟨rfl, _, .of hb5⟩, _, .of hcl5, V.str (vo (z9 ns 6) j), ?_, ?_⟩
        . refine ya ?_
          rw [Ze, yv, Ze, List.getElem?_range (show j < 3 by omega)];rfl
        refine ⟨a, ns, 3 + j, ?_, So.seq hS, ?_⟩
        . rw [show (3 : Int) + (j : Int) = ((3 + j : Nat) : Int) by omega]
        refine ⟨z9 ns (3 + j), wa ns j, rfl, by omega, fun H7 wl S7 hwl hwl7 => ⟨by decide, fun tt htt => ?_⟩⟩;have S8 : Same H7 (upd H7 tt (.tup [V.str (vo (z9 ns 6) j), V.ref wl, V.ref g])) := Same.upd (Same.refl _) htt;have htt8 : upd H7 tt (.tup [V.str (vo (z9 ns 6) j), V.ref wl, V.ref g]) tt = some (.tup [V.str (vo (z9 ns 6) j), V.ref wl, V.ref g]) := zf;generalize upd H7 tt (.tup [V.str (vo (z9 ns 6) j), V.ref wl, V.ref g]) = H8 at *;have S58 := S7.trans S8;have G7 := GH.more S7;have G8 := GH.more S58;have hb8 := G8.at';have hd : HandAt H8 ⟨tt, wl, g, gs⟩ (ar ns top n j) := ⟨htt8, S8 _ _ hwl7, S58 _ _ NG.at', by rw [NG.lb]; exact (bg ..).symm, fun i r ms e1 e2 => S58 _ _ (NG.row i r ms e1 e2).1⟩
        have h2 : ∀ y ∈ g :: gs, H2 y = none := fun y hy => by
          rcases ZK.mp hy with e | z
          . rw [e]; exact hg
          . exact NG.nr y z
        have S12 : Same H1 H2 := GG.same
        have h5 : ∀ y ∈ g :: gs, H5 y ≠ none := fun y hy => by
          rcases ZK.mp hy with e | z
          . rw [e, NG.at']; simp
          . obtain ⟨k, hk, e⟩ := Zy z
            have e1 : gs[k]? = some y := by rw [<- e]; simp [hk]
            have hk2 : k < (ua ns top (x5 ns n j) n (wa ns j)).length := by rw [NG.lr, <- NG.lb]; exact hk
            have e2 : (ua ns top (x5 ns n j) n (wa ns j))[k]? = some (ua ns top (x5 ns n j) n (wa ns j))[k] := by simp [hk2]
            rw [(NG.row k y _ e1 e2).1]; simp
        have htt5 : H5 tt = none := S7.free htt;refine ⟨_, hb8, ?_, ?_⟩
        . rw [Za, G.len, wo, Za, ZO]
          exact Zh (show j < 3 by omega) (by decide)
        refine ⟨xs ++ [⟨tt, wl, g, gs⟩], _, _, _, _, ?_, rfl⟩;rw [zck];refine G8.snoc hd (fun y hy => ?_) ?_ (fun y hy => ?_) ?_
        . rcases ZK.mp hy with e | hy
          . rw [e]; exact (S12.trans S5).free htt5
          rcases ZK.mp hy with e | hy
          . rw [e]; exact (S12.trans S5).free hwl
          . exact S12.free (h2 y hy)
        . refine ZW.mpr ⟨fun z => ?_, ZW.mpr ⟨fun z => h5 _ z hwl, ZW.mpr ⟨NG.ne, NG.nd⟩⟩⟩
          rcases ZK.mp (show tt ∈ wl :: g :: gs from z) with e | z
          . rw [e, hwl7] at htt; cases htt
          . exact h5 _ z htt5
        . intro hz
          rcases ZK.mp hy with e | hy
          . rw [e] at hz; exact G7.old _ hz htt
          rcases ZK.mp hy with e | hy
          . rw [e] at hz; exact GH.old _ hz hwl
          . exact GG.old _ hz (h2 y hy)
        . intro hz
          rcases ZK.mp (show b ∈ tt :: wl :: g :: gs from hz) with e | hz
          . rw [<- e, G7.at'] at htt; cases htt
          rcases ZK.mp hz with e | hz
          . rw [<- e, GH.at'] at hwl; cases hwl
          . have := h2 _ hz
            rw [GG.at'] at this; cases this
    . rintro σ H' ⟨xs, t1', t2', t3', t4', G, rfl⟩
      simp only [zd, ze, ↓reduceIte];exact q H' b xs (G.from S1)
end
def yp (d : HD) (z : Str) : List Int := d.worths.getD (d.words.idxOf z) []
def r9 (d : HD) (wt : Int) (z : Str) : List Int := (yp d z).map fun n => wt * n
def yy (ds : List HD) (ws : List Int) (r : List Str) (i : Nat) : List Int := match ds[i]?, ws[i]?, r[i]? with
  | some d, some w, some z => r9 d w z
  | _, _, _ => []
def xl (ds : List HD) (ws : List Int) (r : List Str) (n : Nat) : List (List Int) := (List.range n).map (yy ds ws r)
def xg (hc : List Int) (ps : List (List Int)) : List Int := ps.foldl (fun t p => List.zipWith (· + ·) t p) hc
theorem dk (ds : List HD) (ws : List Int) (r : List Str) (n : Nat) : (xl ds ws r n).length = n := by rw [xl, Za, ZO]
theorem zbv (ds : List HD) (ws : List Int) (r : List Str) (n : Nat) : xl ds ws r (n + 1) = xl ds ws r n ++ [yy ds ws r n] := by rw [xl, ZU, Zn]; rfl
theorem zbz (hc : List Int) (ps : List (List Int)) (p : List Int) : xg hc (ps ++ [p]) = List.zipWith (· + ·) (xg hc ps) p := by rw [xg, List.foldl_append]; rfl
theorem pq {n : Nat} : ∀ (ps : List (List Int)) (hc : List Int), hc.length = n -> (∀ p ∈ ps, p.length = n) -> (xg hc ps).length = n
  | [], hc, h, _ => h
  | p :: ps, hc, h, hp => by
    refine pq ps _ ?_ fun q hq => hp q (Zv _ hq)
    rw [Yd, h, hp p ZA, YG]
theorem za1 : ∀ {zs : List Str} {m : Nat} {z : Str}, zs[m]? = some z -> zs.idxOf z <= m
  | [], m, z, h => by simp at h
  | y :: zs, 0, z, h => by
    simp at h;subst h;simp
  | y :: zs, m + 1, z, h => by
    rw [List.idxOf_cons]
    cases y == z with
    | true => exact ZE _
    | false => exact YA (za1 (by simpa using h))
theorem zds (y z : Str) : eqV (V.str y) (V.str z) = decide (y = z) := rfl
theorem jq {zs : List Str} {z : Str} (h : z ∈ zs) : FirstAt (zs.map V.str) (V.str z) (zs.idxOf z) := by
  have hl := Zz.mpr h;refine ⟨rfl, ?_, ⟨V.str z, ?_, ?_⟩, fun m y hm e => ?_⟩
  . rw [ZQ]
    intro x hx;obtain ⟨y, _, rfl⟩ := Zp.mp hx;rfl
  . rw [Ze, Zb hl, Yv]
    rfl
  . rw [zds]
    exact decide_eq_true rfl
  . rw [Ze] at e
    have hml : m < zs.length := by omega
    rw [Zb hml] at e;cases e;rw [zds, decide_eq_false];intro ez;have := Zz.mpr h
    have hle : zs.idxOf z <= m := by
      exact za1 (by rw [Zb hml, ez])
    omega
def k9 (ds : List HD) (r : List Str) : Prop := r.length = ds.length /\ ∀ (i : Nat) (d : HD) (z : Str), ds[i]? = some d -> r[i]? = some z -> z ∈ d.words
def dc (K : Fg) : Sp := fun vs H Q _ => ∃ (t : Addr) (d : HD) (w g : Addr) (gs : List Addr) (z : Str), vs = [.ref t, .str z] /\ HHand H t d w g gs /\ z ∈ d.words /\ d.worths.length = d.words.length /\ ∀ r, H r = some (.tup ((yp d z).map V.int)) -> Q (.ref r) H
def zfm (K : Fg) : Sp := fun vs H Q _ => ∃ (t : Addr) (d : HD) (w g : Addr) (gs : List Addr) (wt : Int) (z : Str), vs = [.ref t, .int wt, .str z] /\ HHand H t d w g gs /\ z ∈ d.words /\ d.worths.length = d.words.length /\ (∀ r ∈ d.worths, r.length <= 8) /\ x9 wt /\ (∀ r ∈ d.worths, ∀ i ∈ r, x9 i) /\ ∀ H' l, Same H H' -> H' l = some (.lst ((r9 d wt z).map V.int)) -> Q (.ref l) H'
def PvPart (H : Hp) (wt : Int) (ns : List Int) (i : Nat) (ys : List V) (H' : Hp) : Prop := H' = H /\ ys = ((ns.take i).map fun n => wt * n).map V.int
structure IntsAt (H : Hp) (ls : List Addr) (ps : List (List Int)) : Prop where
  len : ls.length = ps.length
  at' : ∀ (i : Nat) (l : Addr) (p : List Int), ls[i]? = some l -> ps[i]? = some p -> H l = some (.lst (p.map V.int))
theorem IntsAt.mono {H H' : Hp} {ls : List Addr} {ps : List (List Int)} (S : Same H H') (h : IntsAt H ls ps) : IntsAt H' ls ps := ⟨h.len, fun i l p e1 e2 => S _ _ (h.at' i l p e1 e2)⟩
theorem IntsAt.snoc {H : Hp} {ls : List Addr} {ps : List (List Int)} {l : Addr} {p : List Int} (h : IntsAt H ls ps) (hl : H l = some (.lst (p.map V.int))) : IntsAt H (ls ++ [l]) (ps ++ [p]) := by
  refine ⟨by simp [h.len], fun i a q e1 e2 => ?_⟩
  by_cases hi : i < ls.length
  . rw [Zg hi] at e1
    rw [Zg (by rw [<- h.len]; exact hi)] at e2;exact h.at' i a q e1 e2
  . rw [Zf (ZD.mp hi)] at e1
    rw [Zf (by rw [<- h.len]; exact ZD.mp hi)] at e2
    have h0 : i - ls.length = 0 := by
      have := (Zc.mp e1).1;simp at this;omega
    rw [h0] at e1;rw [<- h.len, h0] at e2;simp at e1 e2;subst e1 e2;exact hl
def b6 (K : Fg) : Sp := fun vs H Q _ => ∃ (p o h l r : Addr) (hs : List Addr) (outs : List Str) (ds : List HD) (ws : List Int) (row : List Str), vs = [.ref p, .ref l, .ref r] /\ HHouse H p o h hs outs ds /\ GoodHouse outs ds /\ H l = some (.lst (ws.map V.int)) /\ ws.length = ds.length /\ (∀ i ∈ ws, x9 i /\ 1 <= i) /\ SqT K H r (row.map V.str) /\ k9 ds row /\
  ∀ H' l' ls, Same H H' -> H' l' = some (.lst (ls.map V.ref)) -> IntsAt H' ls (xl ds ws row ds.length) -> Q (.ref l') H'
def zh6 (H : Hp) (ds : List HD) (ws : List Int) (row : List Str) (i : Nat) (ys : List V) (H' : Hp) : Prop := Same H H' /\ ∃ ls : List Addr, ys = ls.map V.ref /\ IntsAt H' ls (xl ds ws row i)
def bo (K : Fg) : Sp := fun vs H Q _ => ∃ (p o h l m : Addr) (hs : List Addr) (outs : List Str) (ds : List HD) (ws hc : List Int), vs = [.ref p, .ref l, .ref m] /\ HHouse H p o h hs outs ds /\ GoodHouse outs ds /\ H l = some (.lst (ws.map V.int)) /\ ws.length = ds.length /\ (∀ i ∈ ws, x9 i /\ 1 <= i) /\ H m = some (.lst (hc.map V.int)) /\ hc.length = outs.length /\ (∀ i ∈ hc, x9 i) /\ ∀ H', Same H H' -> Q .non H'
def zew (K : Fg) : Sp := fun vs H Q _ => ∃ (p o h l : Addr) (hs : List Addr) (outs : List Str) (ds : List HD) (ws : List Int), vs = [.ref p, .ref l] /\ HHouse H p o h hs outs ds /\ GoodHouse outs ds /\ H l = some (.lst (ws.map V.int)) /\ ws.length = ds.length /\ (∀ i ∈ ws, x9 i /\ 1 <= i) /\ ∀ H', Same H H' -> Q (.bl true) H'
def ze2 (K : Fg) : Sp := fun vs H Q _ => ∃ (p o h m : Addr) (hs : List Addr) (outs : List Str) (ds : List HD) (hc : List Int), vs = [.ref p, .ref m] /\ HHouse H p o h hs outs ds /\ GoodHouse outs ds /\ H m = some (.lst (hc.map V.int)) /\ hc.length = outs.length /\ (∀ i ∈ hc, x9 i) /\ ∀ H', Same H H' -> Q (.bl true) H'
def zbn (K : Fg) : Sp := fun vs H Q _ => ∃ (p o h l m r : Addr) (hs : List Addr) (outs : List Str) (ds : List HD) (ws hc : List Int) (row : List Str), vs = [.ref p, .ref l, .ref m, .ref r] /\ HHouse H p o h hs outs ds /\ GoodHouse outs ds /\ H l = some (.lst (ws.map V.int)) /\ ws.length = ds.length /\ (∀ i ∈ ws, x9 i /\ 1 <= i) /\ H m = some (.lst (hc.map V.int)) /\ hc.length = outs.length /\ (∀ i ∈ hc, x9 i) /\ SqT K H r (row.map V.str) /\ k9 ds row /\
  ∀ H' l', Same H H' -> H l' = none -> H' l' = some (.lst ((xg hc (xl ds ws row ds.length)).map V.int)) -> Q (.ref l') H'
def PvSc (p l m r lp : Addr) (H0 H : Hp) (ls : List Addr) (ps : List (List Int)) (hc : List Int) (i : Nat) (σ : L2.St) (H' : Hp) : Prop := Same H H' /\ ∃ (t : Addr) (v : Option V), H0 t = none /\ H' t = some (.lst ((xg hc (ps.take i)).map V.int)) /\ σ = [some (.ref p), some (.ref l), some (.ref m), some (.ref r), some (.ref t), v]
def PvZw (H : Hp) (as bs : List Int) (i : Nat) (ys : List V) (H' : Hp) : Prop := Same H H' /\ ys = (List.zipWith (· + ·) (as.take i) (bs.take i)).map V.int
theorem zi1 {as bs : List Int} {i : Nat} {x y : Int} (h1 : as[i]? = some x) (h2 : bs[i]? = some y) : List.zipWith (· + ·) (as.take (i + 1)) (bs.take (i + 1)) = List.zipWith (· + ·) (as.take i) (bs.take i) ++ [x + y] := by
  have hl1 := (Zc.mp h1).1;have hl2 := (Zc.mp h2).1;rw [Zq, Zq, h1, h2];exact List.zipWith_append (by rw [Zj, Zj]; omega)
theorem p8 {outs : List Str} {ds : List HD} (G : GoodHouse outs ds) {ws : List Int} {row : List Str} (lw : ws.length = ds.length) (R : k9 ds row) {i : Nat} (hi : i < ds.length) : (yy ds ws row i).length = outs.length := by
  have e1 : ds[i]? = some ds[i] := Zb hi;have e2 : ws[i]? = some (ws[i]'(by omega)) := Zb (by omega);have e3 : row[i]? = some (row[i]'(by rw [R.1]; exact hi)) := Zb (by rw [R.1]; exact hi);have hz := R.2 i _ _ e1 e3;have hm := Zl hi;unfold yy;rw [e1, e2, e3]
  show (r9 _ _ _).length = _
  rw [r9, Za];have hx := Zz.mpr hz;have hr : (ds[i]).words.idxOf (row[i]'(by rw [R.1]; exact hi)) < (ds[i]).worths.length := by rw [G.rows _ hm]; exact hx
  rw [yp, Zk, Zb hr];exact G.cols _ hm _ (Zl hr)
section
variable {P : Program} {w : World} {K : Fg} {mg : Str -> Option Value} {base : Heap} {a : Ad}
theorem ah (D : zc K mg "outcomes_of" u9 ["house"]) : FnAt P w K mg base "outcomes_of" 1 ["house"] (wf K 0) := by
  refine FnAt.of D cr (fun vs H Q E h => ?_) (fun f cdv A outer s H vs Q E hr h => ?_)
  . obtain ⟨t, us, v, rfl, _⟩ := h
    rfl
  . obtain ⟨t, us, v, rfl, ht, e, q⟩ := h
    refine ⟨_, (@zg _ _ _ (@zl _ _ _ _ (@zx _ _ _ _ _ _ _ yf (pv 0) (@zj _ _ _ _) (fun _ _ => rfl)))), ?_⟩;rw [show start ["house"] [V.ref t] = [some (V.ref t)] from rfl];simp only [zd, ze, ↓reduceIte];exact ⟨_, ht, _, ya (j := 0) e, q⟩
theorem fh (D : zc K mg "worths_of_hand" wm ["hand"]) : FnAt P w K mg base "worths_of_hand" 1 ["hand"] (wf K 2) := by
  refine FnAt.of D pj (fun vs H Q E h => ?_) (fun f cdv A outer s H vs Q E hr h => ?_)
  . obtain ⟨t, us, v, rfl, _⟩ := h
    rfl
  . obtain ⟨t, us, v, rfl, ht, e, q⟩ := h
    refine ⟨_, (@zg _ _ _ (@zl _ _ _ _ (@zx _ _ _ _ _ _ _ yf (pv 0) (@zj _ _ _ _) (fun _ _ => rfl)))), ?_⟩;rw [show start ["hand"] [V.ref t] = [some (V.ref t)] from rfl];simp only [zd, ze, ↓reduceIte];exact ⟨_, ht, _, ya (j := 2) e, q⟩
theorem m7 (yl : FnAt P w K mg base "words_of_hand" 1 ["hand"] (wf K 1)) (xk : FnAt P w K mg base "worths_of_hand" 1 ["hand"] (wf K 2)) (D : zc K mg "worths_by" qh ["hand", "word"]) : FnAt P w K mg base "worths_by" 2 ["hand", "word"] (dc K) := by
  refine FnAt.of D zbj (fun vs H Q E h => ?_) (fun f cdv A outer s H vs Q E hr h => ?_)
  . obtain ⟨t, d, wd, g, gs, z, rfl, _⟩ := h
    rfl
  . obtain ⟨t, d, wd, g, gs, z, rfl, hK, hz, hl, q⟩ := h
    refine ⟨_, (@zg _ _ _ (@zl _ _ _ _ (@zx _ _ _ _ _ _ _ yf (zh xk (hr.mono (by decide)) rfl (za (pv 0) (@zb _))) (zfy PySem.F.plainAttrs_tuple PySem.F.slot_tuple_index PySem.F.type_tuple_index bp (zh yl (hr.mono (by decide)) rfl (za (pv 0) (@zb _))) (za (pv 1) (@zb _))) (fun _ _ => rfl)))), ?_⟩;rw [show start ["hand", "word"] [V.ref t, V.str z] = [some (V.ref t), some (V.str z)] from rfl];simp only [zd, ze, ↓reduceIte];have hx := Zz.mpr hz;have hr : d.words.idxOf z < d.worths.length := by rw [hl]; exact hx
    obtain ⟨r, er⟩ : ∃ r, gs[d.words.idxOf z]? = some r := ⟨gs[d.words.idxOf z]'(by rw [hK.len]; exact hr), by simp⟩;have hrow := hK.row _ r _ er (Zb hr);refine ⟨t, _, _, rfl, .of hK.tup, rfl, t, _, _, rfl, .of hK.tup, rfl, ?_⟩;refine ⟨⟨wd, rfl, _, .of hK.words⟩, wd, rfl, _, .of hK.words, _, jq hz, g, rfl, _, .of hK.grid, _, ya (v := V.ref r) (by rw [Ze, er]; rfl), q r ?_⟩;rw [yp, Zk, Zb hr];exact hrow
theorem zao {d : HD} {z : Str} (h : ∀ r ∈ d.worths, r.length <= 8) : (yp d z).length <= 8 := by
  rw [yp, Zk]
  cases e : d.worths[d.words.idxOf z]? with
  | none => exact ZE _
  | some r => exact h r (Zi e)
theorem jz (m7 : FnAt P w K mg base "worths_by" 2 ["hand", "word"] (dc K)) (D : zc K mg "part_of" md ["hand", "weight", "word"]) : FnAt P w K mg base "part_of" 3 ["hand", "weight", "word"] (zfm K) := by
  refine FnAt.of D zeq (fun vs H Q E h => ?_) (fun f cdv A outer s H vs Q E hr h => ?_)
  . obtain ⟨t, d, wd, g, gs, wt, z, rfl, _⟩ := h
    rfl
  . obtain ⟨t, d, wd, g, gs, wt, z, rfl, hK, hz, hl, h8, hwt, hwn, q⟩ := h
    have hlen := zao (z := z) h8;refine ⟨_, (@zg _ _ _ (@zl _ _ _ _ (z0 ["worth"] ["hand", "weight", "word"] rfl (@j5 _ _ _ _ (zh m7 (hr.mono (by decide)) rfl (za (pv 0) (za (pv 2) (@zb _))))) (fun _ => (zm (i := 0) (show (["worth", "hand", "weight", "word"] : List Str).Nodup by decide +kernel) rfl (Or.inl rfl))) (fun _ => (@zy _)) (fun _ => (@zp _ _ _ _ _ _ _ _ zib (pv 2) (pv 0))) rfl (by decide +kernel) rfl rfl))), ?_⟩;rw [show start ["hand", "weight", "word"] [V.ref t, V.int wt, V.str z] = [some (V.ref t), some (V.int wt), some (V.str z)] from rfl];simp only [zd, ze, ↓reduceIte];refine ⟨t, d, wd, g, gs, z, rfl, hK, hz, hl, fun r hrr => ⟨r, rfl, ⟨_, .of hrr⟩, fun dd => ?_⟩⟩;refine jh (xs := (yp d z).map V.int) (PvPart H wt (yp d z)) ⟨rfl, rfl⟩ ?_ ?_ ?_
    . rintro i ys H2 hi ⟨rfl, rfl⟩
      refine ⟨?_, .of hrr⟩;rw [Za, Za, Zj];exact Zd (ZB _ _) (Zd hlen (by decide))
    . rintro i y ys H2 hy ⟨rfl, rfl⟩
      obtain ⟨x, hx, rfl⟩ := ym hy;simp only [zd, ze, ↓reduceIte]
      have hgx : x9 x := by
        have hm := Zi hx;rw [yp, Zk] at hm
        cases e : d.worths[d.words.idxOf z]? with
        | none => rw [e] at hm; cases hm
        | some r => rw [e] at hm; exact hwn r (Zi e) x hm
      refine ⟨⟨⟨by have := hwt.1; omega, by have := hwt.2; omega⟩, by have := hgx.1; omega, by have := hgx.2; omega⟩, rfl, ?_⟩;rw [Zq, hx, Zn, Zn];rfl
    . rintro ys H2 ⟨rfl, rfl⟩ l hll
      rw [Za, Zt];exact q _ l (Same.upd (Same.refl _) hll) zf
theorem ji (B : Bt mg) (f_hands_of : FnAt P w K mg base "hands_of" 1 ["house"] (wf K 1)) (jz : FnAt P w K mg base "part_of" 3 ["hand", "weight", "word"] (zfm K)) (D : zc K mg "parts_of" px ["house", "weights", "row"]) : FnAt P w K mg base "parts_of" 4 ["house", "weights", "row"] (b6 K) := by
  refine FnAt.of D zcj (fun vs H Q E h => ?_) (fun f cdv A outer s H vs Q E hr h => ?_)
  . obtain ⟨p, o, h, l, r, hs, outs, ds, ws, row, rfl, _⟩ := h
    rfl
  . obtain ⟨p, o, h, l, r, hs, outs, ds, ws, row, rfl, hH, G, hw, lw, gw, hrow, R, q⟩ := h
    refine ⟨_, (@zg _ _ _ (@zl _ _ _ _ (z0 ["hand", "weight", "word"] ["house", "weights", "row"] rfl (zja rfl B.zip (za (zh f_hands_of (hr.mono (by decide)) rfl (za (pv 0) (@zb _))) (za (pv 1) (za (pv 2) (@zb _))))) (fun _ => (qu rfl (yq (zm (i := 0) (show (["hand", "weight", "word", "house", "weights", "row"] : List Str).Nodup by decide +kernel) rfl (Or.inl rfl)) (yq (zm (i := 1) (show (["hand", "weight", "word", "house", "weights", "row"] : List Str).Nodup by decide +kernel) rfl (Or.inl rfl)) (yq (zm (i := 2) (show (["hand", "weight", "word", "house", "weights", "row"] : List Str).Nodup by decide +kernel) rfl (Or.inl rfl)) (@t6 _)))))) (fun _ => (@zy _)) (fun _ => (zh jz (hr.mono (by decide)) rfl (za (pv 0) (za (pv 1) (za (pv 2) (@zb _)))))) rfl (by decide +kernel) rfl rfl))), ?_⟩;rw [show start ["house", "weights", "row"] [V.ref p, V.ref l, V.ref r] = [some (V.ref p), some (V.ref l), some (V.ref r)] from rfl];simp only [zd, ze, ↓reduceIte];have h4 := G.hands.2;refine ⟨p, _, _, rfl, .of hH.tup, rfl, h, rfl, ?_⟩
    have all : ∀ H', Same H H' -> uq K H' [h, l, r] [hs.map V.ref, ws.map V.int, row.map V.str] := fun H' S => ⟨rfl, fun j a xs e1 e2 => by
      match j with
      | 0 => simp at e1 e2; subst e1 e2; exact .inr (.of (S _ _ hH.hands))
      | 1 => simp at e1 e2; subst e1 e2; exact .inl (.of (S _ _ hw))
      | 2 => simp at e1 e2; subst e1 e2; exact .inr (S.seqT hrow)
      | j + 3 => simp at e1⟩
    refine ⟨⟨_, all H (Same.refl _)⟩, fun dd => ?_⟩;refine zf4 (xss := [hs.map V.ref, ws.map V.int, row.map V.str]) (n := ds.length) (zh6 H ds ws row) ⟨Same.refl _, [], rfl, rfl, fun i l p e => by simp at e⟩ (fun xs hx => ?_) ⟨hs.map V.ref, by simp, by rw [Za]; exact hH.hand.1⟩ ?_ ?_ ?_
    . simp only [ZK, Zx, or_false] at hx
      rcases hx with rfl | rfl | rfl
      . rw [Za, hH.hand.1]; exact Zm _
      . rw [Za, lw]; exact Zm _
      . rw [Za, R.1]; exact Zm _
    . rintro i ys H2 hi ⟨S, ls, rfl, hI⟩
      refine ⟨?_, all H2 S⟩;rw [Za, hI.len, dk];exact Zd hi (Zd h4 (by decide))
    . rintro i vs ys H2 T hi lv hv hT ⟨S, ls, rfl, hI⟩
      have e0 := hv 0 _ rfl;have e1 := hv 1 _ rfl;have e2 := hv 2 _ rfl;have hd : ds[i]? = some ds[i] := Zb hi;obtain ⟨t, ht⟩ : ∃ t, hs[i]? = some t := ⟨hs[i]'(by rw [hH.hand.1]; exact hi), by simp⟩;obtain ⟨wt, hwt⟩ : ∃ t, ws[i]? = some t := ⟨ws[i]'(by rw [lw]; exact hi), by simp⟩;obtain ⟨z, hz⟩ : ∃ t, row[i]? = some t := ⟨row[i]'(by rw [R.1]; exact hi), by simp⟩;rw [Ze, ht] at e0;rw [Ze, hwt] at e1;rw [Ze, hz] at e2
      have ev : vs = [V.ref t, V.int wt, V.str z] := by
        match vs, lv with
        | [x, y, u], _ =>
          simp at e0 e1 e2;rw [<- e0, <- e1, <- e2]
      subst ev;have S1 : Same H2 (upd H2 T (.tup [V.ref t, V.int wt, V.str z])) := Same.upd (Same.refl _) hT;simp only [zd, ze, ↓reduceIte];refine ⟨_, .of zf, rfl, ?_⟩;generalize upd H2 T (.tup [V.ref t, V.int wt, V.str z]) = H3 at *;simp only [zd, ze, ↓reduceIte];obtain ⟨wd, g, gs, hk⟩ := (hH.hand.mono (S.trans S1)).2 i t _ ht hd;have hm := Zl hi;have hG := G.hand hm;have ho8 := G.outs1.2;refine ⟨t, ds[i], wd, g, gs, wt, z, rfl, hk, R.2 i _ z hd hz, hG.rows, fun r' hr' => by rw [(hG.cols r' hr').1]; exact ho8, (gw wt (Zi hwt)).1, fun r' hr' => (hG.cols r' hr').2, fun H4 l4 S4 hl4 => ?_⟩;refine ⟨S.trans (S1.trans S4), ls ++ [l4], by simp, ?_⟩;rw [zbv];refine (hI.mono (S1.trans S4)).snoc ?_;rw [hl4, yy, hd, hwt, hz]
    . rintro ys H2 ⟨S, ls, rfl, hI⟩ l2 hl2
      exact q _ l2 ls (S.trans (Same.upd (Same.refl _) hl2)) zf (hI.mono (Same.upd (Same.refl _) hl2))
theorem sx (B : Bt mg) (f_outcomes_of : FnAt P w K mg base "outcomes_of" 1 ["house"] (wf K 0)) (wb : FnAt P w K mg base "is_grid_row" 3 ["thing", "width"] qRow) (D : zc K mg "are_handicaps" v7 ["house", "thing"]) : FnAt P w K mg base "are_handicaps" 4 ["house", "thing"] (ze2 K) := by
  refine FnAt.of D g8 (fun vs H Q E h => ?_) (fun f cdv A outer s H vs Q E hr h => ?_)
  . obtain ⟨p, o, h, m, hs, outs, ds, hc, rfl, _⟩ := h
    rfl
  . obtain ⟨p, o, h, m, hs, outs, ds, hc, rfl, hH, G, hm, lh, gh, q⟩ := h
    refine ⟨_, (@zg _ _ _ (@zl _ _ _ _ (zh wb (hr.mono (by decide)) rfl (za (pv 1) (za (zq zt rfl B.len yi (za (zh f_outcomes_of (hr.mono (by decide)) rfl (za (pv 0) (@zb _))) (@zb _))) (@zb _)))))), ?_⟩;rw [show start ["house", "thing"] [V.ref p, V.ref m] = [some (V.ref p), some (V.ref m)] from rfl];simp only [zd, ze, ↓reduceIte];refine ⟨p, _, _, rfl, .of hH.tup, rfl, o, rfl, _, .inr (.of hH.outs), ?_⟩;rw [Za];exact ⟨m, hc, outs.length, rfl, hm, lh, G.outs1.2, gh, q⟩
theorem pi (B : Bt mg) (f_hands_of : FnAt P w K mg base "hands_of" 1 ["house"] (wf K 1)) (wb : FnAt P w K mg base "is_grid_row" 3 ["thing", "width"] qRow) (D : zc K mg "are_weights" u7 ["house", "thing"]) : FnAt P w K mg base "are_weights" 4 ["house", "thing"] (zew K) := by
  refine FnAt.of D ce (fun vs H Q E h => ?_) (fun f cdv A outer s H vs Q E hr h => ?_)
  . obtain ⟨p, o, h, l, hs, outs, ds, ws, rfl, _⟩ := h
    rfl
  . obtain ⟨p, o, h, l, hs, outs, ds, ws, rfl, hH, G, hl, lw, gw, q⟩ := h
    refine ⟨_, (@zg _ _ _ (@zl _ _ _ _ (@o8 _ _ _ _ _ _ _ (zh wb (hr.mono (by decide)) rfl (za (pv 1) (za (zq zt rfl B.len yi (za (zh f_hands_of (hr.mono (by decide)) rfl (za (pv 0) (@zb _))) (@zb _))) (@zb _)))) (@l9 _ _ _ _ _ (zq (t9 rfl) rfl B.all lq (za (z0 ["weight"] ["house", "thing"] rfl (@z8 _ _ _ _ (pv 1)) (fun _ => (zm (i := 0) (show (["weight", "house", "thing"] : List Str).Nodup by decide +kernel) rfl (Or.inl rfl))) (fun _ => (@zy _)) (fun _ => (@l6 _ _ _ _ _ _ _ _ op_ge (pv 0) (@zj _ _ _ _) (yu _))) rfl (by decide +kernel) rfl rfl) (@zb _))))))), ?_⟩;rw [show start ["house", "thing"] [V.ref p, V.ref l] = [some (V.ref p), some (V.ref l)] from rfl];simp only [zd, ze, ↓reduceIte];have h4 := G.hands.2;refine ⟨p, _, _, rfl, .of hH.tup, rfl, h, rfl, _, .inr (.of hH.hands), ?_⟩;rw [Za, hH.hand.1];refine ⟨l, ws, ds.length, rfl, hl, lw, by omega, fun i hi => (gw i hi).1, fun H1 S1 => ?_⟩;have hl1 := S1 _ _ hl;refine ⟨_, rfl, iteT ⟨⟨_, .of hl1⟩, fun d => ?_⟩⟩;refine yb (xs := ws.map V.int) (PvAT H1) ⟨Same.refl _, rfl⟩ ?_ ?_ ?_
    . rintro i ys H2 hi ⟨S, rfl⟩
      rw [Za] at hi;exact ⟨by rw [rn]; exact Zd hi (Zd (show ws.length <= 8 by omega) (by decide)), S.seq (.of hl1)⟩
    . rintro i x ys H2 hx ⟨S, rfl⟩
      obtain ⟨y, hy, rfl⟩ := ym hx;simp only [zd, ze, ↓reduceIte];have := (gw y (Zi hy)).2;rw [decide_eq_true (show y ≥ 1 from this)];exact ⟨S, tz i⟩
    . rintro ys H2 ⟨S, rfl⟩ l2 hl2
      refine ⟨_, .of zf, ?_⟩;rw [rh];exact q _ (S1.trans (S.trans (Same.upd (Same.refl _) hl2)))
theorem tu (B : Bt mg) (C : Ct K mg a) (pi : FnAt P w K mg base "are_weights" 4 ["house", "thing"] (zew K)) (sx : FnAt P w K mg base "are_handicaps" 4 ["house", "thing"] (ze2 K)) (D : zc K mg "refuse_weights" vi ["house", "weights", "handicaps"]) : FnAtX P w K mg base "refuse_weights" 5 ["house", "weights", "handicaps"] (bo K) := by
  refine FnAtX.of D i5 (fun vs H Q E h => ?_) (fun f cdv A outer s H vs Q E hr h => ?_)
  . obtain ⟨p, o, h, l, m, hs, outs, ds, ws, hc, rfl, _⟩ := h
    rfl
  . obtain ⟨p, o, h, l, m, hs, outs, ds, ws, hc, rfl, hH, G, hl, lw, gw, hm, lh, gh, q⟩ := h
    refine ⟨_, (@zk _ _ _ _ _ (@y9 _ _ _ _ _ _ _ _ (@wn _ _ _ _ (w5 (zh pi (hr.mono (by decide)) rfl (za (pv 0) (za (pv 1) (@zb _)))))) (@zg _ _ _ (jc rfl C.q_NoWeight.toErr rfl C.m_NoWeight (rp rfl) (za (@uz _ _ _ _) (@zb _)))) (@yg _)) (@zg _ _ _ (@y9 _ _ _ _ _ _ _ _ (@wn _ _ _ _ (w5 (zh sx (hr.mono (by decide)) rfl (za (pv 0) (za (pv 2) (@zb _)))))) (@zg _ _ _ (jc rfl C.q_NoWeight.toErr rfl C.m_NoWeight (rp rfl) (za (@uz _ _ _ _) (@zb _)))) (@yg _)))), ?_⟩;rw [show start ["house", "weights", "handicaps"] [V.ref p, V.ref l, V.ref m] = [some (V.ref p), some (V.ref l), some (V.ref m)] from rfl];simp only [zd, ze, ↓reduceIte];refine ⟨p, o, h, l, hs, outs, ds, ws, rfl, hH, G, hl, lw, gw, fun H1 S1 => ?_⟩;refine ⟨true, rfl, iteF ⟨p, o, h, m, hs, outs, ds, hc, rfl, hH.mono S1, G, S1 _ _ hm, lh, gh, fun H2 S2 => ?_⟩⟩;exact ⟨true, rfl, iteF (q H2 (S1.trans S2))⟩
theorem gz (B : Bt mg) (C : Ct K mg a) (tu : FnAtX P w K mg base "refuse_weights" 5 ["house", "weights", "handicaps"] (bo K)) (ji : FnAt P w K mg base "parts_of" 4 ["house", "weights", "row"] (b6 K)) (D : zc K mg "scores" kz ["house", "weights", "handicaps", "row"]) : FnAtX P w K mg base "scores" 6 ["house", "weights", "handicaps", "row"] (zbn K) := by
  refine FnAtX.of D sc_scores (fun vs H Q E h => ?_) (fun f cdv A outer s H vs Q E hr h => ?_)
  . obtain ⟨p, o, h, l, m, r, hs, outs, ds, ws, hc, row, rfl, _⟩ := h
    rfl
  . obtain ⟨p, o, h, l, m, r, hs, outs, ds, ws, hc, row, rfl, hH, G, hl, lw, gw, hm, lh, gh, hrow, R, q⟩ := h
    refine ⟨_, (@zk _ _ _ _ _ (vx (zau tu (hr.mono (by decide)) (d0 rfl) rfl (za (pv 0) (za (pv 1) (za (pv 2) (@zb _)))))) (@zk _ _ _ _ _ (PS.nox (zz (i := 4) sc_scores.nd rfl (Or.inl rfl) (vc ni rfl B.list rg (za (pv 2) (@zb _))))) (@zk _ _ _ _ _ (PS.nox (yx PassesOwn.never rfl (@z8 _ _ _ _ (zh ji (hr.mono (by decide)) rfl (za (pv 0) (za (pv 1) (za (pv 3) (@zb _)))))) (zm (i := 5) sc_scores.nd rfl (Or.inl rfl)) (@zg _ _ _ (re (i := 4) ["total", "number"] ["house", "weights", "handicaps", "row", "totals", "part"] sc_scores.nd rfl rfl rfl (zfh rfl B.zip (za (pv 4) (za (pv 5) (@zb _)))) (fun _ => (qu rfl (yq (zm (i := 0) (show (["total", "number", "house", "weights", "handicaps", "row", "totals", "part"] : List Str).Nodup by decide +kernel) rfl (Or.inl rfl)) (yq (zm (i := 1) (show (["total", "number", "house", "weights", "handicaps", "row", "totals", "part"] : List Str).Nodup by decide +kernel) rfl (Or.inl rfl)) (@t6 _))))) (fun _ => (@zy _)) (fun _ => (@zp _ _ _ _ _ _ _ _ y8 (pv 0) (pv 1))) rfl (by decide +kernel) rfl rfl rfl)))) (@zg _ _ _ (PS.nox (@zl _ _ _ _ (pv 4))))))), ?_⟩;rw [show start ["house", "weights", "handicaps", "row", "totals", "part"] [V.ref p, V.ref l, V.ref m, V.ref r] = [some (V.ref p), some (V.ref l), some (V.ref m), some (V.ref r), none, none] from rfl];simp only [zd, ze, ↓reduceIte];refine ⟨p, o, h, l, m, hs, outs, ds, ws, hc, rfl, hH, G, hl, lw, gw, hm, lh, gh, fun H1 S1 => ?_⟩;simp only [zd, ze, ↓reduceIte];refine ⟨_, .inl (.of (S1 _ _ hm)), fun t ht => ?_⟩;have S2 : Same H1 (upd H1 t (.lst (hc.map V.int))) := Same.upd (Same.refl _) ht;have t2 : upd H1 t (.lst (hc.map V.int)) t = some (.lst (hc.map V.int)) := zf;generalize upd H1 t (.lst (hc.map V.int)) = H2 at *;have S12 := S1.trans S2;refine ⟨p, o, h, l, r, hs, outs, ds, ws, row, rfl, hH.mono S12, G, S12 _ _ hl, lw, gw, S12.seqT hrow, R, fun H3 lp ls S3 hlp hI => ⟨lp, rfl, ⟨_, .of hlp⟩, ?_⟩⟩;have pl : (xl ds ws row ds.length).length = ds.length := dk _ _ _ _
    have pw : ∀ q ∈ xl ds ws row ds.length, q.length = outs.length := fun q hq => by
      obtain ⟨i, hi, rfl⟩ := Zp.mp hq;exact p8 G lw R (ZT.mp hi)
    generalize xl ds ws row ds.length = ps at *;refine vh (xs := ls.map V.ref) (PvSc p l m r lp H H3 ls ps hc) ⟨Same.refl _, t, _, S1.free ht, S3 _ _ t2, rfl⟩ ?_ ?_ ?_
    . rintro i σ H4 hi ⟨S4, t4, v, hn4, ht4, rfl⟩
      exact .of (S4 _ _ hlp)
    . rintro i x σ H4 hx ⟨S4, t4, v, hn4, ht4, rfl⟩
      obtain ⟨c, hcx, rfl⟩ := ym hx;have hi : i < ps.length := by have := (Zc.mp hcx).1; have := hI.len; omega
      have ep : ps[i]? = some ps[i] := Zb hi;have hp4 := S4 _ _ (hI.at' i c _ hcx ep);have lp4 := pw _ (Zl hi);have ls4 : (xg hc (ps.take i)).length = outs.length := pq _ _ lh fun q hq => pw q (List.mem_of_mem_take hq)
      have ho8 := G.outs1.2;generalize ps[i] = pt at *;simp only [zd, ze, ↓reduceIte];refine ⟨⟨_, .of ht4⟩, ⟨_, .of hp4⟩, fun dd => ?_⟩;refine a7 (xs := (xg hc (ps.take i)).map V.int) (zs := pt.map V.int) (PvZw H4 (xg hc (ps.take i)) pt) ⟨Same.refl _, rfl⟩ ?_ ?_ ?_
      . rintro j ys H5 hj ⟨S5, rfl⟩
        refine ⟨?_, .of (S5 _ _ ht4), .of (S5 _ _ hp4)⟩;rw [Za, Yd, Zj, Zj];exact Zd (show _ <= 8 by omega) (by decide)
      . rintro j x z ys H5 T hx hz hT ⟨S5, rfl⟩
        rw [Ze] at hx hz
        obtain ⟨x', hx'⟩ : ∃ y, (xg hc (ps.take i))[j]? = some y := by
          cases e : (xg hc (ps.take i))[j]? with
          | none => rw [e] at hx; cases hx
          | some y => exact ⟨y, rfl⟩
        obtain ⟨z', hz'⟩ : ∃ y, pt[j]? = some y := by
          cases e : pt[j]? with
          | none => rw [e] at hz; cases hz
          | some y => exact ⟨y, rfl⟩
        rw [hx'] at hx;rw [hz'] at hz;cases hx;cases hz;have S6 : Same H5 (upd H5 T (.tup [V.int x', V.int z'])) := Same.upd (Same.refl _) hT;simp only [zd, ze, ↓reduceIte];refine ⟨_, .of zf, rfl, ?_⟩;generalize upd H5 T (.tup [V.int x', V.int z']) = H6 at *;simp only [zd, ze, ↓reduceIte];refine ⟨S5.trans S6, ?_⟩;rw [zi1 hx' hz', Zn];rfl
      . rintro ys H5 ⟨S5, rfl⟩ t5 ht5
        have e1 : (xg hc (ps.take i)).take outs.length = xg hc (ps.take i) := ZG (by omega);have e2 : pt.take outs.length = pt := ZG (by omega);rw [Za, Za, ls4, lp4, YG, e1, e2];refine ⟨S4.trans (S5.trans (Same.upd (Same.refl _) ht5)), t5, _, ?_, ?_, rfl⟩
        . exact (S12.trans (S3.trans (S4.trans S5))).free ht5
        . rw [zf, Zq, ep]
          show _ = some (HO.lst ((xg hc (ps.take i ++ [pt])).map V.int))
          rw [zbz]
    . rintro σ H4 ⟨S4, t4, v, hn4, ht4, rfl⟩
      simp only [zd, ze, ↓reduceIte];rw [Za, hI.len, Zt] at ht4;exact q H4 t4 (S12.trans (S3.trans S4)) hn4 ht4
end
def zcy : Sp := fun vs H Q _ => ∃ (b : Addr) (xs : List HX) (ds : List HD), vs = [.ref b] /\ HandsL H b xs ds /\ ds.length <= 4 /\ (∀ d ∈ ds, d.words.length <= 8) /\ ∀ H' l as, Same H H' -> H l = none -> RwsAt H' l as (z7 (ds.map HD.words)) -> Q (.ref l) H'
def PvRL (b : Addr) (ds : List HD) (H : Hp) (i : Nat) (σ : L2.St) (H' : Hp) : Prop := ∃ (l : Addr) (as : List Addr) (v1 v2 v3 v4 : Option V), H l = none /\ RwsAt H' l as (z7 ((ds.map HD.words).take i)) /\ Same H H' /\ σ = [some (.ref b), some (.ref l), v1, v2, v3, v4]
def PvRL2 (b l t p : Addr) (rs : List (List Str)) (ws : List Str) (H : Hp) (i : Nat) (σ : L2.St) (H' : Hp) : Prop := ∃ (as' : List Addr) (v3 v4 : Option V), H' p = some (.lst (as'.map V.ref)) /\ TupsAt H' as' (xt (rs.take i) ws) /\ Same H H' /\ σ = [some (.ref b), some (.ref l), some (.ref t), some (.ref p), v3, v4]
def PvRL3 (b l t p c : Addr) (rs : List (List Str)) (r ws : List Str) (H : Hp) (i j : Nat) (σ : L2.St) (H' : Hp) : Prop := ∃ (as' : List Addr) (v4 : Option V), H' p = some (.lst (as'.map V.ref)) /\ TupsAt H' as' (xt (rs.take i) ws ++ xv r (ws.take j)) /\ Same H H' /\ σ = [some (.ref b), some (.ref l), some (.ref t), some (.ref p), some (.ref c), v4]
def wu (ns : List Int) (m : Nat) : List Int := (List.range m).map fun k => 1 + ((numB (z9 ns (44 + k)) (10 ^ 59)).natAbs : Int)
def xp (ns : List Int) (m : Nat) : List Int := (List.range m).map fun k => numB (z9 ns (47 + k)) (10 ^ 59)
theorem b9 (ns : List Int) (m : Nat) : wu ns (m + 1) = wu ns m ++ [1 + ((numB (z9 ns (44 + m)) (10 ^ 59)).natAbs : Int)] := by rw [wu, ZU, Zn]; rfl
theorem f8 (ns : List Int) (m : Nat) : xp ns (m + 1) = xp ns m ++ [numB (z9 ns (47 + m)) (10 ^ 59)] := by rw [xp, ZU, Zn]; rfl
theorem jt (ns : List Int) (m : Nat) : (wu ns m).length = m := by rw [wu, Za, ZO]
theorem l8 (ns : List Int) (m : Nat) : (xp ns m).length = m := by rw [xp, Za, ZO]
theorem ak (ns : List Int) (m : Nat) : ∀ i ∈ wu ns m, x9 i /\ 1 <= i := fun i hi => by
  obtain ⟨k, _, rfl⟩ := Zp.mp hi;have := ca (z9 ns (44 + k)) (show (10 : Int) ^ 18 <= 10 ^ 59 by decide);refine ⟨⟨?_, ?_⟩, ?_⟩
  . show -(10 ^ 60) < _; omega
  . show _ < (10 : Int) ^ 60; omega
  . omega
theorem fr (ns : List Int) (m : Nat) : ∀ i ∈ xp ns m, x9 i := fun i hi => by
  obtain ⟨k, _, rfl⟩ := Zp.mp hi;have := ca (z9 ns (47 + k)) (show (10 : Int) ^ 18 <= 10 ^ 59 by decide);refine ⟨?_, ?_⟩
  . show -(10 ^ 60) < _; omega
  . show _ < (10 : Int) ^ 60; omega
def oh (K : Fg) (f : List Int -> Nat -> List Int) : Sp := fun vs H Q _ => ∃ (a : Addr) (ns : List Int) (m : Nat), vs = [.ref a, .int m] /\ SqL K H a (ns.map V.int) /\ m <= 8 /\ ∀ H' l, Same H H' -> H' l = some (.lst ((f ns m).map V.int)) -> Q (.ref l) H'
def PvWt (H : Hp) (f : Nat -> List Int) (i : Nat) (ys : List V) (H' : Hp) : Prop := H' = H /\ ys = (f i).map V.int
section
variable {P : Program} {w : World} {K : Fg} {mg : Str -> Option Value} {base : Heap} {a : Ad}
theorem q9 (B : Bt mg) (yr : FnAt P w K mg base "_law_cell" 1 ["script", "k"] (nu K)) (wq : FnAt P w K mg base "_law_number" 1 ["cell", "top"] di) (D : zc K mg "_law_weights" tf ["script", "many"]) : FnAt P w K mg base "_law_weights" 2 ["script", "many"] (oh K wu) := by
  refine FnAt.of D d7 (fun vs H Q E h => ?_) (fun f cdv A outer s H vs Q E hr h => ?_)
  . obtain ⟨a, ns, m, rfl, _⟩ := h
    rfl
  . obtain ⟨a, ns, m, rfl, hS, h8, q⟩ := h
    refine ⟨_, (@zg _ _ _ (@zl _ _ _ _ (z0 ["k"] ["script", "many"] rfl (yk rfl B.range (za (pv 1) (@zb _))) (fun _ => (zm (i := 0) (show (["k", "script", "many"] : List Str).Nodup by decide +kernel) rfl (Or.inl rfl))) (fun _ => (@zy _)) (fun _ => (@zp _ _ _ _ _ _ _ _ y8 (@zj _ _ _ _) (zq za4 rfl B.abs zga (za (zh wq (hr.mono (by decide)) rfl (za (zh yr (hr.mono (by decide)) rfl (za (pv 1) (za (@zp _ _ _ _ _ _ _ _ y8 (@zj _ _ _ _) (pv 0)) (@zb _)))) (za (@zp _ _ _ _ _ _ _ _ l5 (@zj _ _ _ _) (@zj _ _ _ _)) (@zb _)))) (@zb _))))) rfl (by decide +kernel) rfl rfl))), ?_⟩;rw [show start ["script", "many"] [V.ref a, V.int m] = [some (V.ref a), some (V.int m)] from rfl];simp only [zd, ze, ↓reduceIte];refine ⟨by omega, by omega, fun d => ?_⟩;rw [Zw];refine xz (PvWt H (wu ns)) ⟨rfl, rfl⟩ ?_ ?_ ?_
    . rintro i ys H2 hi ⟨rfl, rfl⟩
      rw [Za, jt];exact Zd hi (Zd h8 (by decide))
    . rintro i ys H2 hi ⟨rfl, rfl⟩
      simp only [zd, ze, ↓reduceIte];refine ⟨a, ns, 44 + i, ?_, hS, ?_⟩
      . rw [show (44 : Int) + (i : Int) = ((44 + i : Nat) : Int) by omega]
      refine ⟨⟨by decide, by decide, by decide⟩, z9 ns (44 + i), 10 ^ 59, rfl, by decide, by decide, _, rfl, rfl, ?_⟩;rw [b9, Zn]
      congr 3
      split <;> omega
    . rintro ys H2 ⟨rfl, rfl⟩ l hl
      exact q _ l (Same.upd (Same.refl _) hl) zf
theorem si (B : Bt mg) (yr : FnAt P w K mg base "_law_cell" 1 ["script", "k"] (nu K)) (wq : FnAt P w K mg base "_law_number" 1 ["cell", "top"] di) (D : zc K mg "_law_handicaps" v9 ["script", "places"]) : FnAt P w K mg base "_law_handicaps" 2 ["script", "places"] (oh K xp) := by
  refine FnAt.of D fe (fun vs H Q E h => ?_) (fun f cdv A outer s H vs Q E hr h => ?_)
  . obtain ⟨a, ns, m, rfl, _⟩ := h
    rfl
  . obtain ⟨a, ns, m, rfl, hS, h8, q⟩ := h
    refine ⟨_, (@zg _ _ _ (@zl _ _ _ _ (z0 ["j"] ["script", "places"] rfl (yk rfl B.range (za (pv 1) (@zb _))) (fun _ => (zm (i := 0) (show (["j", "script", "places"] : List Str).Nodup by decide +kernel) rfl (Or.inl rfl))) (fun _ => (@zy _)) (fun _ => (zh wq (hr.mono (by decide)) rfl (za (zh yr (hr.mono (by decide)) rfl (za (pv 1) (za (@zp _ _ _ _ _ _ _ _ y8 (@zj _ _ _ _) (pv 0)) (@zb _)))) (za (@zp _ _ _ _ _ _ _ _ l5 (@zj _ _ _ _) (@zj _ _ _ _)) (@zb _))))) rfl (by decide +kernel) rfl rfl))), ?_⟩;rw [show start ["script", "places"] [V.ref a, V.int m] = [some (V.ref a), some (V.int m)] from rfl];simp only [zd, ze, ↓reduceIte];refine ⟨by omega, by omega, fun d => ?_⟩;rw [Zw];refine xz (PvWt H (xp ns)) ⟨rfl, rfl⟩ ?_ ?_ ?_
    . rintro i ys H2 hi ⟨rfl, rfl⟩
      rw [Za, l8];exact Zd hi (Zd h8 (by decide))
    . rintro i ys H2 hi ⟨rfl, rfl⟩
      simp only [zd, ze, ↓reduceIte];refine ⟨a, ns, 47 + i, ?_, hS, ?_⟩
      . rw [show (47 : Int) + (i : Int) = ((47 + i : Nat) : Int) by omega]
      refine ⟨⟨by decide, by decide, by decide⟩, z9 ns (47 + i), 10 ^ 59, rfl, by decide, by decide, rfl, ?_⟩;rw [f8, Zn];rfl
    . rintro ys H2 ⟨rfl, rfl⟩ l hl
      exact q _ l (Same.upd (Same.refl _) hl) zf
theorem km (D : zc K mg "_law_rows" oo ["hands"]) : FnAt P w K mg base "_law_rows" 1 ["hands"] zcy := by
  refine FnAt.of D sc_law_rows (fun vs H Q E h => ?_) (fun f cdv A outer s H vs Q E hr h => ?_)
  . obtain ⟨b, xs, ds, rfl, _⟩ := h
    rfl
  . obtain ⟨b, xs, ds, rfl, hH, h4, h8, q⟩ := h
    refine ⟨_, (@zk _ _ _ _ _ (@zz _ _ 1 _ _ _ _ sc_law_rows.nd rfl (Or.inl rfl) (@wj _ _ _ _ (@za _ _ _ _ _ (@y7 _ _ _ _ _ (@zb _)) (@zb _) (yd nofun))) rfl (Or.inl rfl)) (@zk _ _ _ _ _ (yx PassesOwn.never rfl (@z8 _ _ _ _ (pv 0)) (zm (i := 2) sc_law_rows.nd rfl (Or.inl rfl)) (@zk _ _ _ _ _ (zz (i := 3) sc_law_rows.nd rfl (Or.inl rfl) (@wj _ _ _ _ (@zb _))) (@zk _ _ _ _ _ (yx PassesOwn.never rfl (@z8 _ _ _ _ (pv 1)) (zm (i := 4) sc_law_rows.nd rfl (Or.inl rfl)) (@zg _ _ _ (yx PassesOwn.never rfl (@z8 _ _ _ _ (@zx _ _ _ _ _ _ _ yf (pv 2) (@zj _ _ _ _) (fun _ _ => rfl))) (zm (i := 5) sc_law_rows.nd rfl (Or.inl rfl)) (@zg _ _ _ (vx (qk PySem.F.plainAttrs_list PySem.F.slot_list_append PySem.F.type_list_append t7 (pv 3) (za (@zp _ _ _ _ _ _ _ _ ri (pv 4) (@y7 _ _ _ _ _ (za (pv 5) (@zb _)))) (@zb _)))))))) (@zg _ _ _ (zz (i := 1) sc_law_rows.nd rfl (Or.inl rfl) (pv 3)))))) (@zg _ _ _ (@zl _ _ _ _ (pv 1))))), ?_⟩;rw [show start ["hands", "rows", "hand", "longer_ones", "row", "word"] [V.ref b] = [some (V.ref b), none, none, none, none, none] from rfl];simp only [zd, ze, ↓reduceIte];refine ⟨by decide, fun c hc => ⟨by decide, fun p hp => ?_⟩⟩;have S1 : Same H (upd H c (.tup [])) := Same.upd (Same.refl _) hc;have h1 : upd H c (.tup []) c = some (.tup []) := zf;generalize upd H c (.tup []) = H1 at *;have S2 : Same H1 (upd H1 p (.lst [V.ref c])) := Same.upd (Same.refl _) hp;have h2 : upd H1 p (.lst [V.ref c]) p = some (.lst [V.ref c]) := zf;generalize upd H1 p (.lst [V.ref c]) = H2 at *;have S := S1.trans S2;refine ⟨⟨_, .of (S _ _ hH.at')⟩, ?_⟩;refine vh (xs := xs.map fun x => V.ref x.t) (PvRL b ds H) ⟨p, [c], _, _, _, _, S1.free hp, ⟨h2, TupsAt.one (S2 _ _ h1)⟩, S, rfl⟩ ?_ ?_ ?_
    . rintro i σ H' hi ⟨l, as, v1, v2, v3, v4, hl, hR, S', rfl⟩
      exact .of (S' _ _ hH.at')
    . rintro i x σ H' hx ⟨l, as, v1, v2, v3, v4, hl, hR, S', rfl⟩
      obtain ⟨t, ht, rfl⟩ := ym hx;have hi : i < ds.length := by have := (Zc.mp ht).1; have := hH.len; omega
      have ed : ds[i]? = some ds[i] := Zb hi;have hd := (hH.mono S').hand i t _ ht ed;have ew : (ds.map HD.words)[i]? = some ds[i].words := by rw [Ze, ed]; rfl
      have hw8 := h8 _ (Zl hi)
      have few := rj (wss := ds.map HD.words) (by rw [Za]; exact h4) (fun ws hws => by
        obtain ⟨d, hd, rfl⟩ := Zp.mp hws
        exact h8 d hd) i (by rw [Za]; omega)
      have hwid : ∀ r ∈ z7 ((ds.map HD.words).take i), r.length <= 8 := fun r hr => by
        have := gg (ds.map HD.words) i (by rw [Za]; omega) r hr;omega
      simp only [zd, ze, ↓reduceIte];refine ⟨by decide, fun p2 hp2 => ?_⟩;have S3 : Same H' (upd H' p2 (.lst [])) := Same.upd (Same.refl _) hp2;have R3 := hR.mono S3;have hw3 := (hd.mono S3);generalize hrs : z7 ((ds.map HD.words).take i) = rs at *;generalize hwds : ds[i].words = ws at *;have hpn : H p2 = none := S'.free hp2;refine ⟨⟨_, .of R3.lst⟩, ?_⟩;refine vh (xs := as.map V.ref) (PvRL2 b l t.t p2 rs ws H') ⟨[], _, _, zf, TupsAt.nil, S3, rfl⟩ ?_ ?_ ?_
      . rintro j σ H4 hj ⟨as', u3, u4, a1, a2, S4, rfl⟩
        exact .of (S4 _ _ hR.lst)
      . rintro j y σ H4 hy ⟨as', u3, u4, a1, a2, S4, rfl⟩
        obtain ⟨cc, hcc, rfl⟩ := ym hy;have hjl : j < rs.length := by have := (Zc.mp hcc).1; have := hR.tups.len; omega
        have er : rs[j]? = some rs[j] := Zb hjl;have hrow := hR.tups.at' j cc _ hcc er;have hr8 := hwid _ (Zl hjl);generalize rs[j] = rr at *;have hd4 := hd.mono S4;simp only [zd, ze, ↓reduceIte];refine ⟨_, .of hd4.tup, _, ya (j := 1) rfl, t.w, rfl, ⟨_, .of hd4.words⟩, ?_⟩;refine vh (xs := ws.map V.str) (PvRL3 b l t.t p2 cc rs rr ws H' j) ⟨as', _, a1, by rw [List.take_zero, xv, Yt, Ye]; exact a2, S4, rfl⟩ ?_ ?_ ?_
        . rintro m σ H5 hm ⟨bs, u4, b1, b2, S5, rfl⟩
          have := (hd.mono S5).words;rw [hwds] at this;exact .of this
        . rintro m y σ H5 hy ⟨bs, u4, b1, b2, S5, rfl⟩
          obtain ⟨z, hz, rfl⟩ := ym hy;simp only [zd, ze, ↓reduceIte];refine ⟨.inl ⟨rfl, _, .of b1⟩, by decide, fun e he => ?_⟩;have S6 : Same H5 (upd H5 e (.tup [V.str z])) := Same.upd (Same.refl _) he;refine ⟨_, (S5.trans S6) _ _ hrow, _, zf, ?_, fun H7 e7 S7 h7 => ?_⟩
          . rw [Za]
            exact Zd (show _ <= 9 by simp; omega) (by decide)
          have S57 := S6.trans S7;refine ⟨_, S57 _ _ b1, ?_, bs ++ [e7], _, by rw [zf, Zn]; rfl, ?_, Same.upd (S5.trans S57) hp2, rfl⟩
          . rw [Za, b2.len, Zo, qm, mq, Zj, Zj]
            have : min j rs.length * ws.length <= 4096 * 8 := YO (by omega) hw8;exact Ym (show _ <= 4096 * 8 + 8 by omega) (by decide)
          . rw [Zq, hz]
            show TupsAt _ _ (_ ++ xv rr (ws.take m ++ [z]))
            rw [xv, Zn, <- List.append_assoc];exact ((b2.mono S57).append (TupsAt.one (by rw [h7]; simp))).past (S57 _ _ b1)
        . rintro σ H5 ⟨bs, u4, b1, b2, S5, rfl⟩
          refine ⟨bs, _, _, b1, ?_, S5, rfl⟩;rw [Za, Zt] at b2;rw [Zq, er]
          show TupsAt _ _ (xt (rs.take j ++ [rr]) ws)
          rw [dm];exact b2
      . rintro σ H4 ⟨as', u3, u4, a1, a2, S4, rfl⟩
        simp only [zd, ze, ↓reduceIte];rw [Za, hR.tups.len, Zt] at a2;refine ⟨p2, as', _, _, _, _, hpn, ⟨a1, ?_⟩, S'.trans S4, rfl⟩;rw [um ew, hrs];exact a2
    . rintro σ H' ⟨l, as, v1, v2, v3, v4, hl, hR, S', rfl⟩
      simp only [zd, ze, ↓reduceIte];rw [Za, hH.len, ZG (by rw [Za]; omega)] at hR;exact q H' l as S' hl hR
end
def xx (ts : List Int) : Nat := ts.idxOf (ts.max?.getD 0)
def rq (ts p : List Int) : List Int := List.zipWith (· - ·) ts p
def zfa (ts p : List Int) : Int := (rq ts p).max?.getD 0 - (rq ts p).getD (xx ts) 0
theorem max_of {ts : List Int} {m : Int} (h1 : m ∈ ts) (h2 : ∀ a ∈ ts, a <= m) : ts.max?.getD 0 = m := by
  have : ts.max? = some m := Yp.mpr ⟨h1, h2⟩;rw [this];rfl
theorem bc : ∀ {zs : List Int} {m : Nat} {z : Int}, zs[m]? = some z -> zs.idxOf z <= m
  | [], m, z, h => by simp at h
  | y :: zs, 0, z, h => by
    simp at h;subst h;simp
  | y :: zs, m + 1, z, h => by
    rw [List.idxOf_cons]
    cases y == z with
    | true => exact ZE _
    | false => exact YA (bc (by simpa using h))
theorem zco (y z : Int) : eqV (V.int y) (V.int z) = decide (y = z) := by
  show (y == z) = decide (y = z)
  by_cases h : y = z
  . subst h; simp
  . simp [h]
theorem zf6 {zs : List Int} {z : Int} (h : z ∈ zs) : FirstAt (zs.map V.int) (V.int z) (zs.idxOf z) := by
  have hl := Zz.mpr h;refine ⟨rfl, ?_, ⟨V.int z, ?_, ?_⟩, fun m y hm e => ?_⟩
  . rw [ZQ]
    intro x hx;obtain ⟨y, _, rfl⟩ := Zp.mp hx;rfl
  . rw [Ze, Zb hl, Yv]
    rfl
  . rw [zco]
    exact decide_eq_true rfl
  . rw [Ze] at e
    have hml : m < zs.length := by omega
    rw [Zb hml] at e;cases e;rw [zco, decide_eq_false];intro ez;have hle : zs.idxOf z <= m := bc (by rw [Zb hml, ez]);omega
def zgo (K : Fg) : Sp := fun vs H Q _ => ∃ (t : Addr) (ts : List Int), vs = [.ref t] /\ SqL K H t (ts.map V.int) /\ 0 < ts.length /\ Q (.int (xx ts)) H
section
variable {P : Program} {w : World} {K : Fg} {mg : Str -> Option Value} {base : Heap} {a : Ad}
theorem o4 (B : Bt mg) (D : zc K mg "best_place" sk ["totals"]) : FnAt P w K mg base "best_place" 1 ["totals"] (zgo K) := by
  refine FnAt.of D aj (fun vs H Q E h => ?_) (fun f cdv A outer s H vs Q E hr h => ?_)
  . obtain ⟨t, ts, rfl, _⟩ := h
    rfl
  . obtain ⟨t, ts, rfl, ht, h0, q⟩ := h
    refine ⟨_, (@zg _ _ _ (@zl _ _ _ _ (qk PySem.F.plainAttrs_list PySem.F.slot_list_index PySem.F.type_list_index br (pv 0) (za (zq (zfj rfl) rfl B.max bt_max (za (pv 0) (@zb _))) (@zb _))))), ?_⟩;rw [show start ["totals"] [V.ref t] = [some (V.ref t)] from rfl];simp only [zd, ze, ↓reduceIte];refine ⟨.inl ⟨rfl, _, ht⟩, _, ht, h0, fun m hm1 hm2 => ⟨_, ht, _, zf6 hm1, ?_⟩⟩;rw [xx, max_of hm1 hm2] at q;exact q
end
def xn (outs : List Str) (ds : List HD) (ws hc : List Int) (row : List Str) : Str := outs.getD (xx (xg hc (xl ds ws row ds.length))) ⟨#[]⟩
def vf (r : List Str) : List Key := r.map Sum.inr
theorem j1 (r : List Str) : (vf r).map kV = r.map V.str := by
  rw [vf, YJ];rfl
theorem dq {r q : List Str} (h : vf r = vf q) : r = q := by
  induction r generalizing q with
  | nil => cases q with
    | nil => rfl
    | cons _ _ => cases h
  | cons x xs ih => cases q with
    | nil => cases h
    | cons y ys =>
      rw [vf, vf, ZM, ZM] at h
      injection h with h1 h2
      injection h1 with h1
      rw [h1, ih h2]
def x8 (f : List Str -> Str) (rs : List (List Str)) : List (List Key × V) := rs.map fun r => (vf r, V.str (f r))
theorem zci (f : List Str -> Str) (rs : List (List Str)) : (x8 f rs).map (·.1) = rs.map vf := by rw [x8, YJ]; rfl
theorem zgi {f : List Str -> Str} {rs : List (List Str)} (h : rs.Nodup) : ((x8 f rs).map (·.1)).Nodup := by
  rw [zci];exact YR.mpr (List.Pairwise.imp (fun {a b} hab e => hab (dq e)) h)
theorem dz {f : List Str -> Str} {rs : List (List Str)} {r : List Str} (h : r ∈ rs) : valV (x8 f rs) (vf r) = some (V.str (f r)) := by
  induction rs with
  | nil => cases h
  | cons q rs ih =>
    rw [x8, ZM]
    by_cases e : q = r
    . rw [jb (by rw [e]), e]
    . rw [jg (fun z => e (dq z))]
      exact ih ((ZK.mp h).resolve_left fun z => e z.symm)
theorem fb {ts : List Int} (h0 : 0 < ts.length) : xx ts < ts.length := by
  have : ts.max?.getD 0 ∈ ts := by
    cases e : ts.max? with
    | none => rw [YD] at e; rw [e] at h0; cases h0
    | some x => exact (Yp.mp e).1
  exact Zz.mpr this
theorem gk {ds : List HD} {row : List Str} (h : row ∈ z7 (ds.map HD.words)) : k9 ds row := by
  have hpk := rowsP_iff.mp h;refine ⟨by rw [hpk.1, Za], fun k d z e1 e2 => ?_⟩;obtain ⟨u, h1, h2⟩ := hpk.2 k d.words (by rw [Ze, e1]; rfl);rw [e2] at h1;cases h1;exact h2
def bt (K : Fg) : Sp := fun vs H Q _ => ∃ (p o h l m r : Addr) (hs : List Addr) (outs : List Str) (ds : List HD) (ws hc : List Int) (row : List Str), vs = [.ref p, .ref l, .ref m, .ref r] /\ HHouse H p o h hs outs ds /\ GoodHouse outs ds /\ H l = some (.lst (ws.map V.int)) /\ ws.length = ds.length /\ (∀ i ∈ ws, x9 i /\ 1 <= i) /\ H m = some (.lst (hc.map V.int)) /\ hc.length = outs.length /\ (∀ i ∈ hc, x9 i) /\ SqT K H r (row.map V.str) /\ k9 ds row /\
  ∀ H', Same H H' -> Q (.str (xn outs ds ws hc row)) H'
def gi (K : Fg) : Sp := fun vs H Q _ => ∃ (p o h l m : Addr) (hs : List Addr) (outs : List Str) (ds : List HD) (ws hc : List Int), vs = [.ref p, .ref l, .ref m] /\ HHouse H p o h hs outs ds /\ GoodHouse outs ds /\ H l = some (.lst (ws.map V.int)) /\ ws.length = ds.length /\ (∀ i ∈ ws, x9 i /\ 1 <= i) /\ H m = some (.lst (hc.map V.int)) /\ hc.length = outs.length /\ (∀ i ∈ hc, x9 i) /\
  ∀ H' t, Same H H' -> H' t = some (.dT (x8 (xn outs ds ws hc) (z7 (ds.map HD.words)))) -> Q (.ref t) H'
def PvBT (H : Hp) (f : List Str -> Str) (rs : List (List Str)) (i : Nat) (ys : List V) (H' : Hp) : Prop := Same H H' /\ ∃ Ts : List Addr, ys = Ts.map V.ref /\ so H' Ts (x8 f (rs.take i))
theorem i9 {H H' : Hp} {Ts : List Addr} {kvs : List (List Key × V)} (S : Same H H') (h : so H Ts kvs) : so H' Ts kvs := ⟨h.len, fun i T kv e1 e2 => by
  obtain ⟨b, h1, h2⟩ := h.at' i T kv e1 e2
  exact ⟨b, S _ _ h1, S _ _ h2⟩⟩
theorem zbu {H : Hp} {Ts : List Addr} {kvs : List (List Key × V)} {T b : Addr} {kv : List Key × V} (h : so H Ts kvs) (hT : H T = some (.tup [.ref b, kv.2])) (hb : H b = some (.tup (kv.1.map kV))) : so H (Ts ++ [T]) (kvs ++ [kv]) := by
  refine ⟨by simp [h.len], fun i a q e1 e2 => ?_⟩
  by_cases hi : i < Ts.length
  . rw [Zg hi] at e1
    rw [Zg (by rw [<- h.len]; exact hi)] at e2;exact h.at' i a q e1 e2
  . rw [Zf (ZD.mp hi)] at e1
    rw [Zf (by rw [<- h.len]; exact ZD.mp hi)] at e2
    have h0 : i - Ts.length = 0 := by
      have := (Zc.mp e1).1;simp at this;omega
    rw [h0] at e1;rw [<- h.len, h0] at e2;simp at e1 e2;subst e1 e2;exact ⟨b, hT, hb⟩
section
variable {P : Program} {w : World} {K : Fg} {mg : Str -> Option Value} {base : Heap} {a : Ad}
theorem rf (B : Bt mg) (f_outcomes_of : FnAt P w K mg base "outcomes_of" 1 ["house"] (wf K 0)) (o4 : FnAt P w K mg base "best_place" 1 ["totals"] (zgo K)) (gz : FnAtX P w K mg base "scores" 6 ["house", "weights", "handicaps", "row"] (zbn K)) (D : zc K mg "best_outcome" uw ["house", "weights", "handicaps", "row"]) : FnAt P w K mg base "best_outcome" 7 ["house", "weights", "handicaps", "row"] (bt K) := by
  refine FnAt.of D fv (fun vs H Q E h => ?_) (fun f cdv A outer s H vs Q E hr h => ?_)
  . obtain ⟨p, o, h, l, m, r, hs, outs, ds, ws, hc, row, rfl, _⟩ := h
    rfl
  . obtain ⟨p, o, h, l, m, r, hs, outs, ds, ws, hc, row, rfl, hH, G, hl, lw, gw, hm, lh, gh, hrow, R, q⟩ := h
    refine ⟨_, (@zg _ _ _ (@zl _ _ _ _ (@zx _ _ _ _ _ _ _ yf (zh f_outcomes_of (hr.mono (by decide)) rfl (za (pv 0) (@zb _))) (zh o4 (hr.mono (by decide)) rfl (za (fg gz (hr.mono (by decide)) rfl (za (pv 0) (za (pv 1) (za (pv 2) (za (pv 3) (@zb _)))))) (@zb _))) (fun _ _ => rfl)))), ?_⟩;rw [show start ["house", "weights", "handicaps", "row"] [V.ref p, V.ref l, V.ref m, V.ref r] = [some (V.ref p), some (V.ref l), some (V.ref m), some (V.ref r)] from rfl];simp only [zd, ze, ↓reduceIte];refine ⟨p, _, _, rfl, .of hH.tup, rfl, ?_⟩;refine ⟨p, o, h, l, m, r, hs, outs, ds, ws, hc, row, rfl, hH, G, hl, lw, gw, hm, lh, gh, hrow, R, fun H1 t S1 _ ht => ?_⟩
    have pw : ∀ q ∈ xl ds ws row ds.length, q.length = outs.length := fun q hq => by
      obtain ⟨i, hi, rfl⟩ := Zp.mp hq;exact p8 G lw R (ZT.mp hi)
    have hsl : (xg hc (xl ds ws row ds.length)).length = outs.length := pq _ _ lh pw;have ho := G.outs1;have hbl : xx (xg hc (xl ds ws row ds.length)) < outs.length := by rw [<- hsl]; exact fb (by omega)
    have hq := q H1 S1;rw [xn, Zk, Zb hbl] at hq;exact ⟨t, _, rfl, .of ht, by omega, o, rfl, _, _, rfl, .of (S1 _ _ hH.outs), _, ya (v := V.str outs[xx (xg hc (xl ds ws row ds.length))]) (by rw [Ze, Zb hbl]; rfl), hq⟩
theorem nj (B : Bt mg) (j6 : FnAt P w K mg base "rows_of" 3 ["house"] (zba K)) (rf : FnAt P w K mg base "best_outcome" 7 ["house", "weights", "handicaps", "row"] (bt K)) (D : zc K mg "best_table" sf ["house", "weights", "handicaps"]) : FnAt P w K mg base "best_table" 8 ["house", "weights", "handicaps"] (gi K) := by
  refine FnAt.of D b8 (fun vs H Q E h => ?_) (fun f cdv A outer s H vs Q E hr h => ?_)
  . obtain ⟨p, o, h, l, m, hs, outs, ds, ws, hc, rfl, _⟩ := h
    rfl
  . obtain ⟨p, o, h, l, m, hs, outs, ds, ws, hc, rfl, hH, G, hl, lw, gw, hm, lh, gh, q⟩ := h
    refine ⟨_, (@zg _ _ _ (@zl _ _ _ _ (vc (zed rfl (hu11 hr)) rfl B.dict zis (za (z0 ["row"] ["house", "weights", "handicaps"] rfl (@z8 _ _ _ _ (zh j6 (hr.mono (by decide)) rfl (za (pv 0) (@zb _)))) (fun _ => (zm (i := 0) (show (["row", "house", "weights", "handicaps"] : List Str).Nodup by decide +kernel) rfl (Or.inl rfl))) (fun _ => (@zy _)) (fun _ => (@y7 _ _ _ _ _ (za (pv 0) (za (zh rf (hr.mono (by decide)) rfl (za (pv 1) (za (pv 2) (za (pv 3) (za (pv 0) (@zb _)))))) (@zb _))))) rfl (by decide +kernel) rfl rfl) (@zb _))))), ?_⟩;rw [show start ["house", "weights", "handicaps"] [V.ref p, V.ref l, V.ref m] = [some (V.ref p), some (V.ref l), some (V.ref m)] from rfl];simp only [zd, ze, ↓reduceIte];have h4 := G.hands.2;have h8 : ∀ d ∈ ds, d.words.length <= 8 := fun d hd => (G.words1 d hd).2
    refine ⟨p, o, h, hs, outs, ds, rfl, hH.k, h4, h8, fun H1 rl as S1 _ R1 => ⟨rl, rfl, ⟨_, .of R1.lst⟩, fun dd => ?_⟩⟩
    have few := rj (wss := ds.map HD.words) (by rw [Za]; exact h4) (fun ws hws => by
      obtain ⟨d, hd, rfl⟩ := Zp.mp hws
      exact h8 d hd) _ (Zm _)
    rw [Zt] at few
    have nd : (z7 (ds.map HD.words)).Nodup := zcb fun vs hvs => by
      obtain ⟨d, hd, rfl⟩ := Zp.mp hvs;exact (G.hand hd).wordsD
    have hin : ∀ r ∈ z7 (ds.map HD.words), k9 ds r := fun r hr => gk hr
    generalize z7 (ds.map HD.words) = rs at *;refine yb (xs := as.map V.ref) (PvBT H1 (xn outs ds ws hc) rs) ⟨Same.refl _, [], rfl, rfl, fun i T kv e => by simp at e⟩ ?_ ?_ ?_
    . rintro i ys H2 hi ⟨S2, Ts, rfl, hP⟩
      refine ⟨?_, .of (S2 _ _ R1.lst)⟩;rw [Za, hP.len, x8, Za, Zj];exact Zd (ZB _ _) (Zd few (by decide))
    . rintro i x ys H2 hx ⟨S2, Ts, rfl, hP⟩
      obtain ⟨c, hcx, rfl⟩ := ym hx;have hi : i < rs.length := by have := (Zc.mp hcx).1; have := R1.tups.len; omega
      have er : rs[i]? = some rs[i] := Zb hi;have hrow := S2 _ _ (R1.tups.at' i c _ hcx er);have hR := hin _ (Zl hi);have S12 := S1.trans S2;simp only [zd, ze, ↓reduceIte];refine ⟨p, o, h, l, m, c, hs, outs, ds, ws, hc, rs[i], rfl, hH.mono S12, G, S12 _ _ hl, lw, gw, S12 _ _ hm, lh, gh, .of hrow, hR, fun H3 S3 => ⟨by decide, fun T hT => ?_⟩⟩;have S4 : Same H3 (upd H3 T (.tup [V.ref c, V.str (xn outs ds ws hc rs[i])])) := Same.upd (Same.refl _) hT;refine ⟨S2.trans (S3.trans S4), Ts ++ [T], by simp, ?_⟩;rw [Zq, er]
      show so _ _ (x8 _ (rs.take i ++ [rs[i]]))
      rw [x8, Zn];exact zbu (i9 (S3.trans S4) hP) (b := c) zf (by rw [j1]; exact (S3.trans S4) _ _ hrow)
    . rintro ys H2 ⟨S2, Ts, rfl, hP⟩ l2 hl2
      rw [Za, R1.tups.len, Zt] at hP;have S3 : Same H2 (upd H2 l2 (.lst (Ts.map V.ref))) := Same.upd (Same.refl _) hl2;refine ⟨Ts, zf, _, i9 S3 hP, fun t ht => ?_⟩;rw [zex (zgi nd)];exact q _ t (S1.trans (S2.trans (S3.trans (Same.upd (Same.refl _) ht)))) zf
end
def na (K : Fg) : Sp := fun vs H Q _ => ∃ (g : Addr) (as : List Addr) (rows : List (List Int)) (s t : Nat) (ns : List Int) (x y : Int), vs = [.ref g, .int s, .int t] /\ GridL K H g as rows /\ rows[t]? = some ns /\ ns[t]? = some x /\ ns[s]? = some y /\ Q (.int (x - y)) H
def gcA (rows : List (List Int)) (t s : Nat) : Int := (rows.getD t []).getD s 0
def nw (rows : List (List Int)) (ps : List Int) (t s : Nat) : Int := ps.getD t 0 - ps.getD s 0 - (gcA rows t t - gcA rows t s)
def zbp (rows : List (List Int)) (n : Nat) : Prop := ∀ i : Nat, i < n -> ∃ ns : List Int, rows[i]? = some ns /\ ns.length = n
theorem ox {rows : List (List Int)} {t s : Nat} {ns : List Int} (h : rows[t]? = some ns) (hs : s < ns.length) : ns[s]? = some (gcA rows t s) := by
  unfold gcA;rw [Zk, Zk, h];simp [hs]
theorem j2 {ps : List Int} {t : Nat} (h : t < ps.length) : ps[t]? = some (ps.getD t 0) := by
  rw [Zk]; simp [h]
def zdq (K : Fg) : Sp := fun vs H Q _ => ∃ (g p : Addr) (as : List Addr) (rows : List (List Int)) (ps : List Int) (n s t : Nat), vs = [.ref g, .ref p, .int t, .int s] /\ GridL K H g as rows /\ SqL K H p (ps.map V.int) /\ ps.length = n /\ zbp rows n /\ s < n /\ t < n /\ Q (.int (nw rows ps t s)) H
def First (rows : List (List Int)) (ps : List Int) (n : Nat) : Option (Nat × Nat) -> Prop
  | none => ∀ t s : Nat, t < n -> s < n -> nw rows ps t s <= 0
  | some (t, s) => t < n /\ s < n /\ 0 < nw rows ps t s /\ ∀ t' s' : Nat, t' < n -> s' < n -> (t' < t \/ (t' = t /\ s' < s)) -> nw rows ps t' s' <= 0
def spFG (K : Fg) : Sp := fun vs H Q _ => ∃ (g p : Addr) (as : List Addr) (rows : List (List Int)) (ps : List Int) (n : Nat), vs = [.ref g, .ref p] /\ GridL K H g as rows /\ as.length = n /\ SqL K H p (ps.map V.int) /\ ps.length = n /\ n <= 8 /\ zbp rows n /\
  (First rows ps n none -> Q .non H) /\ ∀ t s : Nat, First rows ps n (some (t, s)) -> ∀ l, H l = none -> Q (.ref l) (upd H l (.tup [.int t, .int s, .int (nw rows ps t s)]))
def PvFG (g p : Addr) (rows : List (List Int)) (ps : List Int) (n : Nat) (k : Nat) (H : Hp) (i : Nat) (σ : L2.St) (H4 : Hp) : Prop := H4 = H /\ (∃ vs : List (Option V), vs.length = k /\ σ = some (.ref g) :: some (.ref p) :: vs) /\ ∀ t s : Nat, t < i -> s < n -> nw rows ps t s <= 0
def PvFG2 (g p : Addr) (rows : List (List Int)) (ps : List Int) (n : Nat) (k : Nat) (H : Hp) (t : Nat) (j : Nat) (σ : L2.St) (H4 : Hp) : Prop := H4 = H /\ (∃ vs : List (Option V), vs.length = k /\ σ = some (.ref g) :: some (.ref p) :: some (.int t) :: vs) /\ ∀ s : Nat, s < j -> nw rows ps t s <= 0
section
variable {P : Program} {w : World} {K : Fg} {mg : Str -> Option Value} {base : Heap}
theorem uj (D : zc K mg "turn" d4 ["grid", "s", "t"]) : FnAt P w K mg base "turn" 1 ["grid", "s", "t"] (na K) := by
  refine FnAt.of D zi6 (fun vs H Q E h => ?_) (fun f cdv A outer s H vs Q E hr h => ?_)
  . obtain ⟨g, as, rows, s, t, ns, x, y, rfl, _⟩ := h
    rfl
  . obtain ⟨g, as, rows, s, t, ns, x, y, rfl, G, h1, h2, h3, q⟩ := h
    refine ⟨_, (@zg _ _ _ (@zl _ _ _ _ (@zp _ _ _ _ _ _ _ _ sv (@zx _ _ _ _ _ _ _ ye (@zx _ _ _ _ _ _ _ ye (pv 0) (pv 2) (fun _ _ => rfl)) (pv 2) (fun _ _ => rfl)) (@zx _ _ _ _ _ _ _ ye (@zx _ _ _ _ _ _ _ ye (pv 0) (pv 2) (fun _ _ => rfl)) (pv 1) (fun _ _ => rfl))))), ?_⟩;rw [show start ["grid", "s", "t"] [V.ref g, V.int s, V.int t] = [some (V.ref g), some (V.int s), some (V.int t)] from rfl];simp only [zd, ze, ↓reduceIte];obtain ⟨r, e1, e2⟩ := zaa G h1;exact ⟨_, G.1, _, e1, r, rfl, _, e2, _, vg h2, _, G.1, _, e1, r, rfl, _, e2, _, vg h3, _, rfl, _, rfl, q⟩
theorem zal (uj : FnAt P w K mg base "turn" 1 ["grid", "s", "t"] (na K)) (D : zc K mg "gain" dh ["grid", "pays", "t", "s"]) : FnAt P w K mg base "gain" 2 ["grid", "pays", "t", "s"] (zdq K) := by
  refine FnAt.of D zi5 (fun vs H Q E h => ?_) (fun f cdv A outer s H vs Q E hr h => ?_)
  . obtain ⟨g, p, as, rows, ps, n, s, t, rfl, _⟩ := h
    rfl
  . obtain ⟨g, p, as, rows, ps, n, s, t, rfl, G, hp, lp, hw, hs, ht, q⟩ := h
    refine ⟨_, (@zg _ _ _ (@zl _ _ _ _ (@zp _ _ _ _ _ _ _ _ sv (@zp _ _ _ _ _ _ _ _ sv (@zx _ _ _ _ _ _ _ ye (pv 1) (pv 2) (fun _ _ => rfl)) (@zx _ _ _ _ _ _ _ ye (pv 1) (pv 3) (fun _ _ => rfl))) (zh uj (hr.mono (by decide)) rfl (za (pv 0) (za (pv 3) (za (pv 2) (@zb _)))))))), ?_⟩;rw [show start ["grid", "pays", "t", "s"] [V.ref g, V.ref p, V.int t, V.int s] = [some (V.ref g), some (V.ref p), some (V.int t), some (V.int s)] from rfl];simp only [zd, ze, ↓reduceIte];obtain ⟨ns, e1, l1⟩ := hw t ht;refine ⟨_, hp, _, vg (j2 (by omega)), _, hp, _, vg (j2 (by omega)), _, rfl, _, rfl, g, as, rows, s, t, ns, _, _, rfl, G, e1, ox e1 (by omega), ox e1 (by omega), ?_⟩;simp only [zd, ze, ↓reduceIte];exact q
theorem nv (B : Bt mg) (zal : FnAt P w K mg base "gain" 2 ["grid", "pays", "t", "s"] (zdq K)) (D : zc K mg "first_gain" sw ["grid", "pays"]) : FnAt P w K mg base "first_gain" 3 ["grid", "pays"] (spFG K) := by
  refine FnAt.of D sc_first_gain (fun vs H Q E h => ?_) (fun f cdv A outer s H vs Q E hr h => ?_)
  . obtain ⟨g, p, as, rows, ps, n, rfl, _⟩ := h
    rfl
  . obtain ⟨g, p, as, rows, ps, n, rfl, G, la, hp, lp, hn, hw, q0, q1⟩ := h
    refine ⟨_, (@zk _ _ _ _ _ (yx PassesOwn.never rfl (yk rfl B.range (za (zq zt rfl B.len yi (za (pv 0) (@zb _))) (@zb _))) (zm (i := 2) sc_first_gain.nd rfl (Or.inl rfl)) (@zg _ _ _ (yx PassesOwn.never rfl (yk rfl B.range (za (zq zt rfl B.len yi (za (pv 0) (@zb _))) (@zb _))) (zm (i := 3) sc_first_gain.nd rfl (Or.inl rfl)) (@zk _ _ _ _ _ (zz (i := 4) sc_first_gain.nd rfl (Or.inl rfl) (zh zal (hr.mono (by decide)) rfl (za (pv 0) (za (pv 1) (za (pv 2) (za (pv 3) (@zb _))))))) (@zg _ _ _ (@y9 _ _ _ _ _ _ _ _ (@y6 _ _ _ _ _ _ _ _ zem (pv 4) (@zj _ _ _ _) (yu _)) (@zg _ _ _ (@zl _ _ _ _ (@y7 _ _ _ _ _ (za (pv 2) (za (pv 3) (za (pv 4) (@zb _))))))) (@yg _))))))) (@zg _ _ _ (@zl _ _ _ _ (@qv _ _ _)))), ?_⟩;rw [show start ["grid", "pays", "t", "s", "more"] [V.ref g, V.ref p] = [some (V.ref g), some (V.ref p), none, none, none] from rfl];simp only [zd, ze, ↓reduceIte];refine ⟨_, .inl G.1, ?_⟩;rw [Za, la];refine ⟨by omega, by omega, ?_⟩;rw [Zw];refine xr (PvFG g p rows ps n 3 H) ⟨rfl, ⟨_, rfl, rfl⟩, fun t s h => by omega⟩ ?_ ?_
    . rintro i σ H4 hi ⟨rfl, ⟨vs, lv, rfl⟩, no⟩
      match vs, lv with
      | [v2, v3, v4], _ =>
      simp only [zd, ze, ↓reduceIte];refine ⟨_, .inl G.1, ?_⟩;rw [Za, la];refine ⟨by omega, by omega, ?_⟩;rw [Zw];refine xr (PvFG2 g p rows ps n 2 H4 i) ⟨rfl, ⟨_, rfl, rfl⟩, fun s h => by omega⟩ ?_ ?_
      . rintro j σ H5 hj ⟨rfl, ⟨vs, lv, rfl⟩, no2⟩
        match vs, lv with
        | [v3, v4], _ =>
        simp only [zd, ze, ↓reduceIte];refine ⟨g, p, as, rows, ps, n, j, i, rfl, G, hp, lp, hw, hj, hi, ?_⟩;simp only [zd, ze, ↓reduceIte];refine ite2 (fun h => ?_) fun h => ?_
        . refine ⟨by decide, q1 i j ⟨hi, hj, of_decide_eq_true h, fun t' s' h1 h2 h3 => ?_⟩⟩
          rcases h3 with z | ⟨rfl, z⟩
          . exact no t' s' z h2
          . exact no2 s' z
        . refine ⟨rfl, ⟨_, rfl, rfl⟩, fun s hs => ?_⟩
          by_cases e : s = j
          . subst e
            exact Int.not_lt.mp fun z => h (decide_eq_true z)
          . exact no2 s (by omega)
      . rintro σ H5 ⟨rfl, ⟨vs, lv, rfl⟩, no2⟩
        refine ⟨rfl, ⟨_, by simp [lv], rfl⟩, fun t s ht hs => ?_⟩
        by_cases e : t = i
        . subst e; exact no2 s hs
        . exact no t s (by omega) hs
    . rintro σ H4 ⟨rfl, ⟨vs, lv, rfl⟩, no⟩
      simp only [zd, ze, ↓reduceIte];exact q0 fun t s ht hs => no t s ht hs
end
def zw (rows : List (List Int)) (s t : Nat) : Int := gcA rows t t - gcA rows t s
theorem e6 (rows : List (List Int)) (t : Nat) : zw rows t t = 0 := by unfold zw; omega
def il : Nat -> List Nat -> Nat
  | a, [] => a
  | _, w :: ws => il w ws
abbrev nI (ws : List Nat) : List Int := ws.map fun w : Nat => ((w : Nat) : Int)
theorem zc3 : ∀ {ws : List Nat} {a : Nat}, ((nI (a :: ws)).map V.int) = ((nI (a :: ws)).map V.int).dropLast ++ [V.int (il a ws)]
  | [], a => rfl
  | w :: ws, a => by
    have ih := @zc3 ws w
    show V.int a :: ((nI (w :: ws)).map V.int) = V.int a :: (((nI (w :: ws)).map V.int).dropLast ++ [V.int (il w ws)])
    rw [<- ih]
theorem zcx (a : Nat) (ws : List Nat) : atI ((nI (a :: ws)).map V.int) (-1) = some (V.int (il a ws)) := by
  rw [zc3]; exact zg0 _ _
def wk (T : Nat -> Nat -> Int) : Nat -> List Nat -> Int
  | _, [] => 0
  | a, w :: ws => T a w + wk T w ws
def lst : Nat -> List Nat -> Nat
  | a, [] => a
  | _, w :: ws => lst w ws
theorem wc : ∀ (ws : List Nat) (a x : Nat), lst a (ws ++ [x]) = x
  | [], _, _ => rfl
  | w :: ws, _, x => wc ws w x
theorem cj : ∀ (ps : List Nat) (a b : Nat) (ss : List Nat), lst a (ps ++ b :: ss) = lst b ss
  | [], _, _, _ => rfl
  | p :: ps, _, b, ss => cj ps p b ss
theorem lj (T : Nat -> Nat -> Int) : ∀ (ps : List Nat) (a b : Nat) (ss : List Nat), wk T a (ps ++ b :: ss) = wk T a (ps ++ [b]) + wk T b ss
  | [], a, b, ss => by show T a b + wk T b ss = T a b + 0 + wk T b ss; omega
  | p :: ps, a, b, ss => by
    show T a p + wk T p (ps ++ b :: ss) = T a p + wk T p (ps ++ [b]) + wk T b ss
    rw [lj T ps p b ss]; omega
theorem vv (T : Nat -> Nat -> Int) : ∀ (ws : List Nat) (a x : Nat), wk T a (ws ++ [x]) = wk T a ws + T (lst a ws) x
  | [], a, x => by show T a x + 0 = 0 + T a x; omega
  | w :: ws, a, x => by
    show T a w + wk T w (ws ++ [x]) = T a w + wk T w ws + T (lst w ws) x
    rw [vv T ws w x]; omega
theorem zcq : ∀ (ws : List Nat) (a : Nat), lst a ws ∈ a :: ws
  | [], a => by simp [lst]
  | w :: ws, a => Zv _ (zcq ws w)
theorem uh : ∀ (ws : List Nat) (a : Nat), a :: ws = (a :: ws).dropLast ++ [lst a ws]
  | [], a => rfl
  | w :: ws, a => by
    have ih := uh ws w
    show a :: (w :: ws) = a :: ((w :: ws).dropLast ++ [lst w ws])
    rw [<- ih]
structure Wk (n k s t : Nat) (ws : List Nat) : Prop where
  len : ws.length = k
  lt : ∀ x ∈ ws, x < n
  to : lst s ws = t
structure Least (T : Nat -> Nat -> Int) (n k s t : Nat) (ws : List Nat) : Prop where
  w : Wk n k s t ws
  least : ∀ ws', Wk n k s t ws' -> wk T s ws <= wk T s ws'
theorem Least.one (T : Nat -> Nat -> Int) {n s t : Nat} (ht : t < n) : Least T n 1 s t [t] := by
  refine ⟨⟨rfl, fun x hx => by rw [ZC.mp hx]; exact ht, rfl⟩, fun ws' h => ?_⟩
  match ws', h.len, h.to with
  | [x], _, h2 =>
    have e : x = t := h2;subst e;exact Yr _
theorem Least.more {T : Nat -> Nat -> Int} {n k s t : Nat} (ht : t < n) (f : Nat -> List Nat) (hf : ∀ u, u < n -> Least T n k s u (f u)) (hk : 0 < k) {i : Nat} (hi : i < n) (hm : ∀ u, u < n -> wk T s (f i) + T i t <= wk T s (f u) + T u t) : Least T n (k + 1) s t (f i ++ [t]) := by
  have hi' := (hf i hi).w;refine ⟨⟨by rw [Zo, hi'.len]; rfl, fun x hx => ?_, wc _ _ _⟩, fun ws' h => ?_⟩
  . rcases ZH.mp hx with z | z
    . exact hi'.lt x z
    . rw [ZC.mp z]; exact ht
  . have hne : ws' ≠ [] := by intro e; subst e; have := h.len; simp at this
    obtain ⟨w, r, rfl⟩ : ∃ w r, ws' = w :: r := by
      cases ws' with
      | nil => exact absurd rfl hne
      | cons w r => exact ⟨w, r, rfl⟩
    have e1 := uh r w;have e2 : lst w r = t := h.to;rw [e2] at e1;generalize hp : (w :: r).dropLast = p at e1;rw [e1] at h ⊢;rw [vv, vv];have hl : p.length = k := by have := h.len; rw [Zo] at this; simpa using this
    have hlt : ∀ x ∈ p, x < n := fun x hx => h.lt x (ZV _ hx)
    have hu : lst s p < n := by
      cases p with
      | nil => simp at hl; omega
      | cons y q => exact hlt _ (zcq q y)
    have q := (hf (lst s p) hu).least p ⟨hl, hlt, rfl⟩;have q2 := hm (lst s p) hu;have q3 := hi'.to;rw [q3];omega
def NoNeg (T : Nat -> Nat -> Int) (n k : Nat) : Prop := ∀ s ws, s < n -> Wk n k s s ws -> 0 <= wk T s ws
theorem NoNeg.zero (T : Nat -> Nat -> Int) (n : Nat) : NoNeg T n 0 := fun s ws _ h => by
  have := h.len
  cases ws with
  | nil => exact Yr _
  | cons _ _ => simp at this
theorem NoNeg.one {T : Nat -> Nat -> Int} (h0 : ∀ t, T t t = 0) (n : Nat) : NoNeg T n 1 := fun s ws _ h => by
  match ws, h.len, h.to with
  | [x], _, h2 =>
    have e : x = s := h2;subst e
    show 0 <= T x x + 0
    rw [h0]; exact Yr _
theorem twice {l : List Nat} (h : ¬ l.Nodup) : ∃ x A B C, l = A ++ x :: (B ++ x :: C) := by
  induction l with
  | nil => exact absurd YN h
  | cons a r ih =>
    by_cases ha : a ∈ r
    . obtain ⟨B, C, e⟩ := List.append_of_mem ha
      exact ⟨a, [], B, C, by rw [e]; rfl⟩
    . have hr : ¬ r.Nodup := fun q => h (ZW.mpr ⟨ha, q⟩)
      obtain ⟨x, A, B, C, e⟩ := ih hr;exact ⟨x, a :: A, B, C, by rw [e]; rfl⟩
theorem parts {T : Nat -> Nat -> Int} {n k s : Nat} {ws : List Nat} (hs : s < n) (hk : 0 < k) (h : Wk n k s s ws) (hd : ¬ (s :: ws.dropLast).Nodup) (hno : ∀ j, j < k -> NoNeg T n j) : 0 <= wk T s ws := by
  obtain ⟨x, A, B, C, e⟩ := twice hd;have hne : ws ≠ [] := by intro q; subst q; have := h.len; simp at this; omega
  obtain ⟨w, r, rfl⟩ : ∃ w r, ws = w :: r := by
    cases ws with
    | nil => exact absurd rfl hne
    | cons w r => exact ⟨w, r, rfl⟩
  have e1 := uh r w;have e2 : lst w r = s := h.to;rw [e2] at e1;generalize hp : (w :: r).dropLast = p at e e1;rw [e1] at h ⊢;have hlen : p.length + 1 = k := by have := h.len; rw [Zo] at this; simpa using this
  have hlt := h.lt
  cases A with
  | nil =>
    injection e with ea eb
    subst ea;rw [eb] at hlen hlt ⊢;have l1 : B.length + 1 + C.length + 1 = k := by rw [Zo, ZL] at hlen; omega
    rw [List.append_assoc, List.cons_append, lj]
    have q1 := hno (B.length + 1) (by omega) s (B ++ [s]) hs ⟨by simp, fun y hy => hlt y (by
      simp only [ZH, ZK, ZC] at hy ⊢
      rcases hy with z | z
      . exact .inl (.inl z)
      . exact .inr (by simpa using z)), wc _ _ _⟩
    have q2 := hno (C.length + 1) (by omega) s (C ++ [s]) hs ⟨by simp, fun y hy => hlt y (by
      simp only [ZH, ZK, ZC] at hy ⊢
      rcases hy with z | z
      . exact .inl (.inr (.inr z))
      . exact .inr (by simpa using z)), wc _ _ _⟩
    omega
  | cons a A =>
    obtain ⟨ea, eb⟩ : s = a /\ p = A ++ x :: (B ++ x :: C) := by
      injection e with ea eb
      exact ⟨ea, eb⟩
    subst ea;rw [eb] at hlen hlt ⊢
    have l1 : A.length + 1 + B.length + 1 + C.length + 1 = k := by
      simp only [Zo, ZL] at hlen; omega
    have hx : x < n := hlt x (by simp);have e3 : (A ++ x :: (B ++ x :: C)) ++ [s] = A ++ x :: (B ++ x :: (C ++ [s])) := by simp
    rw [e3, lj, lj T B]
    have q1 := hno (B.length + 1) (by omega) x (B ++ [x]) hx ⟨by simp, fun y hy => hlt y (by
      simp only [ZH, ZK, ZC] at hy ⊢
      rcases hy with z | z
      . exact .inl (.inr (.inr (.inl z)))
      . exact .inl (.inr (.inl (by simpa using z)))), wc _ _ _⟩
    have q2 := hno (A.length + 1 + (C.length + 1)) (by omega) s (A ++ x :: (C ++ [s])) hs ⟨by simp; omega, fun y hy => hlt y (by
      simp only [ZH, ZK, ZC] at hy ⊢
      rcases hy with z | z | z | z
      . exact .inl (.inl z)
      . exact .inl (.inr (.inl z))
      . exact .inl (.inr (.inr (.inr (.inr z))))
      . exact .inr (by simpa using z)), by rw [cj, wc]⟩
    rw [lj] at q2;omega
theorem few {n : Nat} : ∀ {l : List Nat}, l.Nodup -> (∀ x ∈ l, x < n) -> l.length <= n := by
  induction n with
  | zero =>
    intro l _ h
    cases l with
    | nil => exact Zm _
    | cons a r => exact absurd (h a ZA) (YH _)
  | succ n ih =>
    intro l hd h
    have q := ih (l := l.erase n) (hd.erase n) fun x hx => by
      have h1 := (List.Nodup.mem_erase_iff hd).mp hx;have h2 := h x h1.2;have h3 := h1.1;omega
    have z := List.length_erase (a := n) (l := l)
    split at z <;> omega
theorem NoNeg.all {T : Nat -> Nat -> Int} {n : Nat} (h : ∀ j, j <= n -> NoNeg T n j) : ∀ k, NoNeg T n k := by
  intro k
  induction k using Nat.strongRecOn with
  | ind k ih =>
    by_cases hk : k <= n
    . exact h k hk
    . intro s ws hs hw
      refine parts hs (by omega) hw (fun hd => ?_) ih;have hl : (s :: ws.dropLast).length = k := by rw [ZL, List.length_dropLast, hw.len]; omega
      have := few hd (fun x hx => by
        rcases ZK.mp hx with z | z
        . rw [z]; exact hs
        . exact hw.lt x (List.dropLast_subset _ z))
      omega
def rnd (T : Nat -> Nat -> Int) : List Nat -> Int
  | [] => 0
  | a :: ws => wk T a (ws ++ [a])
structure RingA (T : Nat -> Nat -> Int) (n : Nat) (c : List Nat) : Prop where
  two : 2 <= c.length
  nd : c.Nodup
  lt : ∀ x ∈ c, x < n
  neg : rnd T c < 0
  few : ∀ j, j < c.length -> NoNeg T n j
theorem RingA.of {T : Nat -> Nat -> Int} {n k s : Nat} {ws : List Nat} (h0 : ∀ t, T t t = 0) (hs : s < n) (h : Wk n k s s ws) (hneg : wk T s ws < 0) (hno : ∀ j, j < k -> NoNeg T n j) : RingA T n ((s :: ws).dropLast) := by
  have hk : 2 <= k := by
    rcases Nat.lt_or_ge k 2 with z | z
    . exfalso
      have : k = 0 \/ k = 1 := by omega
      rcases this with rfl | rfl
      . have := NoNeg.zero T n s ws hs h; omega
      . have := NoNeg.one h0 n s ws hs h; omega
    . exact z
  obtain ⟨w, r, rfl⟩ : ∃ w r, ws = w :: r := by
    cases ws with
    | nil => have := h.len; simp at this; omega
    | cons w r => exact ⟨w, r, rfl⟩
  have e0 : (s :: w :: r).dropLast = s :: (w :: r).dropLast := rfl;have e1 := uh r w;have e2 : lst w r = s := h.to;rw [e2] at e1;rw [e0];have hl : (s :: (w :: r).dropLast).length = k := by rw [ZL, List.length_dropLast, h.len]; omega
  refine ⟨by rw [hl]; exact hk, Classical.byContradiction fun hd => ?_, fun x hx => ?_, ?_, fun j hj => hno j (by rw [hl] at hj; exact hj)⟩
  . have := parts hs (by omega) h hd hno
    omega
  . rcases ZK.mp hx with z | z
    . rw [z]; exact hs
    . exact h.lt x (List.dropLast_subset _ z)
  . show wk T s ((w :: r).dropLast ++ [s]) < 0
    rw [<- e1]; exact hneg
theorem NoNeg.rnd {T : Nat -> Nat -> Int} {n k : Nat} (h : NoNeg T n k) {c : List Nat} (hl : c.length = k) (hc : ∀ x ∈ c, x < n) : 0 <= rnd T c := by
  cases c with
  | nil => exact Yr _
  | cons a ws =>
    exact h a (ws ++ [a]) (hc a ZA) ⟨by simpa using hl, fun x hx => by
      rcases ZH.mp hx with z | z
      . exact hc x (Zv _ z)
      . rw [ZC.mp z]; exact hc a ZA, wc _ _ _⟩
theorem zd8 : ∀ (ws : List Nat) (a : Nat), lst a ws = il a ws
  | [], _ => rfl
  | w :: ws, _ => zd8 ws w
def WalkAt (H : Hp) (v : V) (T : Nat -> Nat -> Int) (s : Nat) (ws : List Nat) : Prop := ∃ p l, v = .ref p /\ H p = some (.tup [.int (wk T s ws), .ref l]) /\ H l = some (.lst ((nI (s :: ws)).map V.int))
def RowAt (H : Hp) (v : V) (T : Nat -> Nat -> Int) (n k s : Nat) : Prop := ∃ r xs, v = .ref r /\ H r = some (.lst xs) /\ xs.length = n /\ ∀ t, t < n -> ∃ x ws, xs[t]? = some x /\ WalkAt H x T s ws /\ Least T n k s t ws
def RowsAt (H : Hp) (v : V) (T : Nat -> Nat -> Int) (n k : Nat) : Prop := ∃ r xs, v = .ref r /\ H r = some (.lst xs) /\ xs.length = n /\ ∀ s, s < n -> ∃ x, xs[s]? = some x /\ RowAt H x T n k s
theorem WalkAt.mono {H H' : Hp} {v : V} {T : Nat -> Nat -> Int} {s : Nat} {ws : List Nat} (S : Same H H') (h : WalkAt H v T s ws) : WalkAt H' v T s ws := by
  obtain ⟨p, l, e, h1, h2⟩ := h;exact ⟨p, l, e, S _ _ h1, S _ _ h2⟩
theorem RowAt.mono {H H' : Hp} {v : V} {T : Nat -> Nat -> Int} {n k s : Nat} (S : Same H H') (h : RowAt H v T n k s) : RowAt H' v T n k s := by
  obtain ⟨r, xs, e, h1, h2, h3⟩ := h
  exact ⟨r, xs, e, S _ _ h1, h2, fun t ht => by
    obtain ⟨x, ws, e1, e2, e3⟩ := h3 t ht
    exact ⟨x, ws, e1, e2.mono S, e3⟩⟩
theorem RowsAt.mono {H H' : Hp} {v : V} {T : Nat -> Nat -> Int} {n k : Nat} (S : Same H H') (h : RowsAt H v T n k) : RowsAt H' v T n k := by
  obtain ⟨r, xs, e, h1, h2, h3⟩ := h
  exact ⟨r, xs, e, S _ _ h1, h2, fun s hs => by
    obtain ⟨x, e1, e2⟩ := h3 s hs
    exact ⟨x, e1, e2.mono S⟩⟩
def RowPre (H0 : Hp) (T : Nat -> Nat -> Int) (n k s : Nat) (i : Nat) (ys : List V) (H2 : Hp) : Prop := Same H0 H2 /\ ys.length = i /\ ∀ t, t < i -> ∃ x ws, ys[t]? = some x /\ WalkAt H2 x T s ws /\ Least T n k s t ws
theorem RowPre.snoc {H0 H2 H3 : Hp} {T : Nat -> Nat -> Int} {n k s i : Nat} {ys : List V} {x : V} {ws : List Nat} (h : RowPre H0 T n k s i ys H2) (S : Same H2 H3) (hx : WalkAt H3 x T s ws) (hl : Least T n k s i ws) : RowPre H0 T n k s (i + 1) (ys ++ [x]) H3 := by
  obtain ⟨h1, h2, h3⟩ := h;refine ⟨h1.trans S, by rw [Zo, h2]; rfl, fun t ht => ?_⟩
  by_cases e : t < i
  . obtain ⟨y, us, e1, e2, e3⟩ := h3 t e
    exact ⟨y, us, by rw [Zg (by omega)]; exact e1, e2.mono S, e3⟩
  . have : t = i := by omega
    subst this;exact ⟨x, ws, by rw [Zf (by omega), h2]; simp, hx, hl⟩
theorem RowPre.done {H0 H2 : Hp} {T : Nat -> Nat -> Int} {n k s : Nat} {ys : List V} {l : Addr} (h : RowPre H0 T n k s n ys H2) (hl : H2 l = none) : Same H0 (upd H2 l (.lst ys)) /\ RowAt (upd H2 l (.lst ys)) (.ref l) T n k s := by
  obtain ⟨h1, h2, h3⟩ := h;have S : Same H2 (upd H2 l (.lst ys)) := Same.upd (Same.refl _) hl;refine ⟨h1.trans S, l, ys, rfl, zf, h2, fun t ht => ?_⟩;obtain ⟨y, us, e1, e2, e3⟩ := h3 t ht;exact ⟨y, us, e1, e2.mono S, e3⟩
def RowsPre (H0 : Hp) (T : Nat -> Nat -> Int) (n k : Nat) (i : Nat) (ys : List V) (H2 : Hp) : Prop := Same H0 H2 /\ ys.length = i /\ ∀ t, t < i -> ∃ x, ys[t]? = some x /\ RowAt H2 x T n k t
theorem RowsPre.snoc {H0 H2 H3 : Hp} {T : Nat -> Nat -> Int} {n k i : Nat} {ys : List V} {x : V} (h : RowsPre H0 T n k i ys H2) (S : Same H2 H3) (hx : RowAt H3 x T n k i) : RowsPre H0 T n k (i + 1) (ys ++ [x]) H3 := by
  obtain ⟨h1, h2, h3⟩ := h;refine ⟨h1.trans S, by rw [Zo, h2]; rfl, fun t ht => ?_⟩
  by_cases e : t < i
  . obtain ⟨y, e1, e2⟩ := h3 t e
    exact ⟨y, by rw [Zg (by omega)]; exact e1, e2.mono S⟩
  . have : t = i := by omega
    subst this;exact ⟨x, by rw [Zf (by omega), h2]; simp, hx⟩
theorem RowsPre.done {H0 H2 : Hp} {T : Nat -> Nat -> Int} {n k : Nat} {ys : List V} {l : Addr} (h : RowsPre H0 T n k n ys H2) (hl : H2 l = none) : Same H0 (upd H2 l (.lst ys)) /\ RowsAt (upd H2 l (.lst ys)) (.ref l) T n k := by
  obtain ⟨h1, h2, h3⟩ := h;have S : Same H2 (upd H2 l (.lst ys)) := Same.upd (Same.refl _) hl;refine ⟨h1.trans S, l, ys, rfl, zf, h2, fun t ht => ?_⟩;obtain ⟨y, e1, e2⟩ := h3 t ht;exact ⟨y, e1, e2.mono S⟩
structure Gd (K : Fg) (H : Hp) (g : Addr) (rows : List (List Int)) (n : Nat) : Prop where
  ex : ∃ as, GridL K H g as rows /\ as.length = n
  sq : zbp rows n
  n8 : n <= 8
theorem Gd.mono {K : Fg} {H H' : Hp} {g : Addr} {rows : List (List Int)} {n : Nat} (S : Same H H') (G : Gd K H g rows n) : Gd K H' g rows n := by
  obtain ⟨as, h1, h2⟩ := G.ex;exact ⟨⟨as, GridL.mono S h1, h2⟩, G.sq, G.n8⟩
theorem mj {K : Fg} {H : Hp} {g : Addr} {rows : List (List Int)} {n s t : Nat} {Q : VK} {E : XK} (G : Gd K H g rows n) (hs : s < n) (ht : t < n) (q : Q (.int (zw rows s t)) H) : na K [.ref g, .int s, .int t] H Q E := by
  obtain ⟨as, h1, h2⟩ := G.ex;obtain ⟨ns, e1, l1⟩ := G.sq t ht;exact ⟨g, as, rows, s, t, ns, _, _, rfl, h1, e1, ox e1 (by omega), ox e1 (by omega), q⟩
def ow : Sp := fun vs H Q _ => ∃ (p : Addr) (i : Int) (l : V), vs = [.ref p] /\ H p = some (.tup [.int i, l]) /\ Q (.int i) H
def j4 : Sp := fun vs H Q _ => ∃ (p : Addr) (i : Int) (l : V), vs = [.ref p] /\ H p = some (.tup [.int i, l]) /\ Q l H
def spOne (K : Fg) : Sp := fun vs H Q _ => ∃ (g : Addr) (rows : List (List Int)) (n s : Nat), vs = [.ref g, .int s] /\ Gd K H g rows n /\ s < n /\ ∀ H' v, Same H H' -> RowAt H' v (zw rows) n 1 s -> Q v H'
def zdi (K : Fg) : Sp := fun vs H Q _ => ∃ (g : Addr) (rows : List (List Int)) (v : V) (n k s t : Nat), vs = [.ref g, v, .int t] /\ Gd K H g rows n /\ RowAt H v (zw rows) n k s /\ t < n /\ s < n /\ 0 < k /\ k <= 100 /\
  ∀ H' x ws, Same H H' -> WalkAt H' x (zw rows) s ws -> Least (zw rows) n (k + 1) s t ws -> Q x H'
def zf5 (K : Fg) : Sp := fun vs H Q _ => ∃ (g : Addr) (rows : List (List Int)) (v : V) (n k s : Nat), vs = [.ref g, v] /\ Gd K H g rows n /\ RowAt H v (zw rows) n k s /\ s < n /\ 0 < k /\ k <= 100 /\
  ∀ H' v', Same H H' -> RowAt H' v' (zw rows) n (k + 1) s -> Q v' H'
def zbm : Sp := fun vs H Q _ => ∃ (T : Nat -> Nat -> Int) (v : V) (n k : Nat), vs = [v] /\ RowsAt H v T n k /\ 0 < k /\ n <= 8 /\ (∀ H', Same H H' -> NoNeg T n k -> Q .non H') /\
  ∀ H' s ws l, Same H H' -> H' l = some (.lst ((nI ((s :: ws).dropLast)).map V.int)) -> s < n -> Wk n k s s ws -> wk T s ws < 0 -> Q (.ref l) H'
def zbi (K : Fg) : Sp := fun vs H Q _ => ∃ (g : Addr) (rows : List (List Int)) (n : Nat), vs = [.ref g] /\ Gd K H g rows n /\ 0 < n /\ (∀ H', Same H H' -> (∀ j, j <= n -> NoNeg (zw rows) n j) -> Q .non H') /\
  ∀ H' l c, Same H H' -> H' l = some (.lst ((nI c).map V.int)) -> RingA (zw rows) n c -> Q (.ref l) H'
section
variable {P : Program} {w : World} {K : Fg} {mg : Str -> Option Value} {base : Heap}
theorem xj (D : zc K mg "total_of" oq ["walk"]) : FnAt P w K mg base "total_of" 1 ["walk"] ow := by
  refine FnAt.of D zb2 (fun vs H Q E h => ?_) (fun f cdv A outer s H vs Q E hr h => ?_)
  . obtain ⟨p, i, l, rfl, _⟩ := h
    rfl
  . obtain ⟨p, i, l, rfl, hp, q⟩ := h
    refine ⟨_, (@zg _ _ _ (@zl _ _ _ _ (@zx _ _ _ _ _ _ _ yf (pv 0) (@zj _ _ _ _) (fun _ _ => rfl)))), ?_⟩;rw [show start ["walk"] [V.ref p] = [some (V.ref p)] from rfl];simp only [zd, ze, ↓reduceIte];exact ⟨_, .of hp, _, ya (j := 0) rfl, q⟩
theorem sm (D : zc K mg "words_of" oa ["walk"]) : FnAt P w K mg base "words_of" 1 ["walk"] j4 := by
  refine FnAt.of D zcl (fun vs H Q E h => ?_) (fun f cdv A outer s H vs Q E hr h => ?_)
  . obtain ⟨p, i, l, rfl, _⟩ := h
    rfl
  . obtain ⟨p, i, l, rfl, hp, q⟩ := h
    refine ⟨_, (@zg _ _ _ (@zl _ _ _ _ (@zx _ _ _ _ _ _ _ yf (pv 0) (@zj _ _ _ _) (fun _ _ => rfl)))), ?_⟩;rw [show start ["walk"] [V.ref p] = [some (V.ref p)] from rfl];simp only [zd, ze, ↓reduceIte];exact ⟨_, .of hp, _, ya (j := 1) rfl, q⟩
theorem v0 (B : Bt mg) (uj : FnAt P w K mg base "turn" 1 ["grid", "s", "t"] (na K)) (D : zc K mg "walks_of_one_turn" wv ["grid", "s"]) : FnAt P w K mg base "walks_of_one_turn" 2 ["grid", "s"] (spOne K) := by
  refine FnAt.of D ki (fun vs H Q E h => ?_) (fun f cdv A outer s H vs Q E hr h => ?_)
  . obtain ⟨g, rows, n, s, rfl, _⟩ := h
    rfl
  . obtain ⟨g, rows, n, s, rfl, G, hs, q⟩ := h
    have n8 := G.n8;refine ⟨_, (@zg _ _ _ (@zl _ _ _ _ (z0 ["t"] ["grid", "s"] rfl (yk rfl B.range (za (zq zt rfl B.len yi (za (pv 0) (@zb _))) (@zb _))) (fun _ => (zm (i := 0) (show (["t", "grid", "s"] : List Str).Nodup by decide +kernel) rfl (Or.inl rfl))) (fun _ => (@zy _)) (fun _ => (@y7 _ _ _ _ _ (@za _ _ _ _ _ (zh uj (hr.mono (by decide)) rfl (@za _ _ _ _ _ (pv 1) (@za _ _ _ _ _ (pv 2) (@za _ _ _ _ _ (pv 0) (@zb _) (yd nofun)) (yd nofun)) (yd nofun))) (@za _ _ _ _ _ (@wj _ _ _ _ (@za _ _ _ _ _ (pv 2) (@za _ _ _ _ _ (pv 0) (@zb _) (yd nofun)) (yd nofun))) (@zb _) (yd nofun)) (yd nofun)))) rfl (by decide +kernel) rfl rfl))), ?_⟩;rw [show start ["grid", "s"] [V.ref g, V.int s] = [some (V.ref g), some (V.int s)] from rfl];simp only [zd, ze, ↓reduceIte];obtain ⟨as, h1, h2⟩ := G.ex;refine ⟨_, .inl h1.1, ?_⟩;rw [Za, h2];refine ⟨by omega, by omega, fun d => ?_⟩;rw [Zw];refine xz (RowPre H (zw rows) n 1 s) ⟨Same.refl _, rfl, fun t ht => by omega⟩ ?_ ?_ ?_
    . rintro i ys H' hi h
      rw [h.2.1];exact Zd hi (Zd n8 (by decide))
    . rintro i ys H' hi h
      simp only [zd, ze, ↓reduceIte];refine mj (G.mono h.1) hs hi ?_;refine ⟨by show 2 <= sizeLine; decide, fun l hl => ⟨by show 2 <= sizeLine; decide, fun p hp => ?_⟩⟩;have S1 : Same H' (upd H' l (.lst [V.int s, V.int i])) := Same.upd (Same.refl _) hl;have S2 : Same (upd H' l (.lst [V.int s, V.int i])) (upd (upd H' l (.lst [V.int s, V.int i])) p (.tup [V.int (zw rows s i), V.ref l])) := Same.upd (Same.refl _) hp;refine h.snoc (ws := [i]) (S1.trans S2) ⟨p, l, rfl, ?_, S2 _ _ zf⟩ (Least.one _ hi);rw [zf]
      show _ = some (HO.tup [V.int (zw rows s i + 0), V.ref l])
      rw [Int.add_zero]
    . rintro ys H' h l hl
      obtain ⟨S, R⟩ := h.done hl;exact q _ _ S R
end
theorem zc7 (ws : List Nat) (t : Nat) : (nI ws).map V.int ++ [V.int t] = (nI (ws ++ [t])).map V.int := by simp [nI]
theorem zgt (xs : List V) : cutV xs none (some (-1)) = xs.dropLast := by
  unfold cutV;rw [HT.sIx_none, List.drop_zero, Nat.sub_zero, YE]
  congr 1
  unfold HT.sIx;simp;omega
theorem zcd (ws : List Nat) : ((nI ws).map V.int).dropLast = (nI ws.dropLast).map V.int := by
  rw [YE, YE, nI, nI, <- List.map_take, <- List.map_take];simp
theorem zen {H : Hp} {T : Nat -> Nat -> Int} {n k s : Nat} {xs : List V} (h : ∀ t, t < n -> ∃ x ws, xs[t]? = some x /\ WalkAt H x T s ws /\ Least T n k s t ws) :
    ∃ f : Nat -> List Nat, ∀ t, t < n -> Least T n k s t (f t) /\ ∀ x, xs[t]? = some x -> WalkAt H x T s (f t) := by
  refine ⟨fun t => if ht : t < n then Classical.choose (Classical.choose_spec (h t ht)) else [], fun t ht => ?_⟩;have z := Classical.choose_spec (Classical.choose_spec (h t ht));simp only [ht, dif_pos];refine ⟨z.2.2, fun x hx => ?_⟩;rw [z.1] at hx;cases hx;exact z.2.1
def zdj (K : Fg) : Sp := fun vs H Q _ => ∃ (g l : Addr) (rows : List (List Int)) (ts : List Int) (n t : Nat), vs = [.ref g, .ref l, .int t] /\ Gd K H g rows n /\ 0 < n /\ SqL K H l (ts.map V.int) /\ ts.length = n /\ t < n /\ ∀ H' m, Same H H' -> Q (.int m) H'
def zd6 (H : Hp) (i : Nat) (ys : List V) (H' : Hp) : Prop := Same H H' /\ ∃ ns : List Int, ns.length = i /\ ys = ns.map V.int
def HonA (rows : List (List Int)) (ps : List Int) (n : Nat) : Prop := ∀ t s : Nat, t < n -> s < n -> gcA rows t s - gcA rows t t <= ps.getD s 0 - ps.getD t 0
def spHas (K : Fg) : Sp := fun vs H Q _ => ∃ (g : Addr) (rows : List (List Int)) (n : Nat), vs = [.ref g] /\ Gd K H g rows n /\ 0 < n /\ ∀ H' (b : Bool), Same H H' -> (b = true -> ∃ ps : List Int, HonA rows ps n) -> Q (.bl b) H'
def PvTotH (H : Hp) (g : Addr) (n : Nat) (i : Nat) (σ : L2.St) (H' : Hp) : Prop := Same H H' /\ ∃ (l : Addr) (ts : List Int) (v : Option V), H' l = some (.lst (ts.map V.int)) /\ ts.length = n /\ σ = [some (.ref g), some (.ref l), v]
theorem zdc {rows : List (List Int)} {ps : List Int} {n : Nat} (h : HonA rows ps n) : ∀ (ws : List Nat) (s : Nat), s < n -> (∀ x ∈ ws, x < n) -> ps.getD (lst s ws) 0 - ps.getD s 0 <= wk (zw rows) s ws
  | [], s, _, _ => by show ps.getD s 0 - ps.getD s 0 <= 0; omega
  | w :: ws, s, hs, hw => by
    have hw' := hw w ZA;have h1 := zdc h ws w hw' fun x hx => hw x (Zv _ hx)
    have h2 := h w s hw' hs
    show ps.getD (lst w ws) 0 - ps.getD s 0 <= zw rows s w + wk (zw rows) w ws
    unfold zw;unfold zw at h1;omega
theorem HonA.no {rows : List (List Int)} {ps : List Int} {n : Nat} (h : HonA rows ps n) (j : Nat) : NoNeg (zw rows) n j := fun s ws hs W => by
  have := zdc h ws s hs W.lt;rw [W.to] at this;omega
section
variable {P : Program} {w : World} {K : Fg} {mg : Str -> Option Value} {base : Heap}
theorem rc (B : Bt mg) (uj : FnAt P w K mg base "turn" 1 ["grid", "s", "t"] (na K)) (xj : FnAt P w K mg base "total_of" 1 ["walk"] ow) (D : zc K mg "least_to" sh ["grid", "walks", "t"]) : FnAt P w K mg base "least_to" 3 ["grid", "walks", "t"] (zdi K) := by
  refine FnAt.of D sc_least_to (fun vs H Q E h => ?_) (fun f cdv A outer s H vs Q E hr h => ?_)
  . obtain ⟨g, rows, v, n, k, s, t, rfl, _⟩ := h
    rfl
  . obtain ⟨g, rows, v, n, k, s, t, rfl, G, R, ht, hs, hk, hk2, q⟩ := h
    have n8 := G.n8;obtain ⟨r, xs, rfl, hr1, hlen, hall⟩ := R;obtain ⟨fw, hfw⟩ := zen hall;refine ⟨_, (@zk _ _ _ _ _ (re (i := 3) ["total", "words"] ["grid", "walks", "t", "longer"] sc_least_to.nd rfl rfl rfl (@z8 _ _ _ _ (pv 1)) (fun _ => (qu rfl (yq (zm (i := 0) (show (["total", "words", "grid", "walks", "t", "longer"] : List Str).Nodup by decide +kernel) rfl (Or.inl rfl)) (yq (zm (i := 1) (show (["total", "words", "grid", "walks", "t", "longer"] : List Str).Nodup by decide +kernel) rfl (Or.inl rfl)) (@t6 _))))) (fun _ => (@zy _)) (fun _ => (@y7 _ _ _ _ _ (za (@zp _ _ _ _ _ _ _ _ y8 (pv 0) (zh uj (hr.mono (by decide)) rfl (za (pv 2) (za (@zx _ _ _ _ _ _ _ ye (pv 1) (@zdy _ _ _ _ _ _ za9 (@zj _ _ _ _)) (fun _ _ => rfl)) (za (pv 4) (@zb _)))))) (za (@zp _ _ _ _ _ _ _ _ zbk (pv 1) (@wj _ _ _ _ (za (pv 4) (@zb _)))) (@zb _))))) rfl (by decide +kernel) rfl rfl rfl) (@zg _ _ _ (@zl _ _ _ _ (zdp xj (hr.mono (by decide)) rfl rfl B.min rfl (za (pv 3) (@zb _)))))), ?_⟩;rw [show start ["grid", "walks", "t", "longer"] [V.ref g, V.ref r, V.int t] = [some (V.ref g), some (V.ref r), some (V.int t), none] from rfl];simp only [zd, ze, ↓reduceIte];refine ⟨⟨_, .of hr1⟩, fun d => ?_⟩;refine yb (xs := xs) (fun i ys H2 => Same H H2 /\ ys.length = i /\ ∀ u, u < i -> ∃ x, ys[u]? = some x /\ WalkAt H2 x (zw rows) s (fw u ++ [t])) ⟨Same.refl _, rfl, fun u hu => by omega⟩ ?_ ?_ ?_
    . rintro i ys H2 hi ⟨S, hl, _⟩
      exact ⟨by rw [hl]; rw [hlen] at hi; exact Zd hi (Zd n8 (by decide)), S.seq (.of hr1)⟩
    . rintro i x ys H2 hx ⟨S, hl, hy⟩
      have hi : i < n := by rw [<- hlen]; exact (Zc.mp hx).1
      obtain ⟨hL, hW⟩ := hfw i hi;obtain ⟨p, l, rfl, hp, hl1⟩ := hW x hx;have hp2 := S _ _ hp;have hl2 := S _ _ hl1;have hto := hL.w.to;rw [zd8] at hto;simp only [zd, ze, ↓reduceIte];refine ⟨_, .of hp2, rfl, ?_⟩;simp only [zd, ze, ↓reduceIte];refine ⟨_, .of hl2, _, zcx s (fw i), ?_⟩;rw [hto];refine mj (G.mono S) hi ht ?_;simp only [zd, ze, ↓reduceIte];refine ⟨by show 1 <= sizeLine; decide, fun b hb => ?_⟩;have S1 : Same H2 (upd H2 b (.lst [V.int t])) := Same.upd (Same.refl _) hb;refine ⟨_, S1 _ _ hl2, _, zf, ?_, fun c hc => ⟨by show 2 <= sizeLine; decide, fun e he => ?_⟩⟩
      . have := hL.w.len
        simp only [nI, Za, ZL, ZZ, this];exact Zd (show k + 1 + 1 <= 102 by omega) (by decide)
      . have S2 : Same (upd H2 b (.lst [V.int t])) (upd (upd H2 b (.lst [V.int t])) c (.lst ((nI (s :: fw i)).map V.int ++ [V.int t]))) := Same.upd (Same.refl _) hc
        have S3 := Same.upd (o := .tup [V.int (wk (zw rows) s (fw i) + zw rows i t), V.ref c]) (Same.refl (upd (upd H2 b (.lst [V.int t])) c (.lst ((nI (s :: fw i)).map V.int ++ [V.int t])))) he;refine ⟨S.trans (S1.trans (S2.trans S3)), by simp [hl], fun u hu => ?_⟩
        by_cases eu : u < i
        . obtain ⟨x, e1, e2⟩ := hy u eu
          exact ⟨x, by rw [Zg (by omega)]; exact e1, e2.mono (S1.trans (S2.trans S3))⟩
        . have : u = i := by omega
          subst this;refine ⟨.ref e, by rw [Zf (by omega), hl]; simp, e, c, rfl, ?_, ?_⟩
          . rw [zf, vv, hL.w.to]
          . exact S3 _ _ (by rw [zf, zc7]; rfl)
    . rintro ys H2 ⟨S, hl, hy⟩ lo hlo
      rw [hlen] at hl hy;have S1 : Same H2 (upd H2 lo (.lst ys)) := Same.upd (Same.refl _) hlo;refine ⟨ys, .of zf, by omega, fun u => wk (zw rows) s (fw u ++ [t]), fun i x hx => ?_, fun i x hx hm => ?_⟩
      . have hi : i < n := by rw [<- hl]; exact (Zc.mp hx).1
        obtain ⟨x', e1, p, l, e2, hp, hl1⟩ := hy i hi;rw [hx] at e1;cases e1;subst e2;exact ⟨p, _, _, rfl, S1 _ _ hp, rfl, rfl⟩
      . have hi : i < n := by rw [<- hl]; exact (Zc.mp hx).1
        obtain ⟨x', e1, hw⟩ := hy i hi;rw [hx] at e1;cases e1;refine q _ _ _ (S.trans S1) (hw.mono S1) (Least.more ht fw (fun u hu => (hfw u hu).1) hk hi fun u hu => ?_);have z : wk (zw rows) s (fw i ++ [t]) <= wk (zw rows) s (fw u ++ [t]) := (hm u (by omega)).1;rw [vv, vv, (hfw i hi).1.w.to, (hfw u hu).1.w.to] at z;exact z
theorem ug (B : Bt mg) (rc : FnAt P w K mg base "least_to" 3 ["grid", "walks", "t"] (zdi K)) (D : zc K mg "lengthened" uc ["grid", "walks"]) : FnAt P w K mg base "lengthened" 4 ["grid", "walks"] (zf5 K) := by
  refine FnAt.of D jl (fun vs H Q E h => ?_) (fun f cdv A outer s H vs Q E hr h => ?_)
  . obtain ⟨g, rows, v, n, k, s, rfl, _⟩ := h
    rfl
  . obtain ⟨g, rows, v, n, k, s, rfl, G, R, hs, hk, hk2, q⟩ := h
    have n8 := G.n8;refine ⟨_, (@zg _ _ _ (@zl _ _ _ _ (z0 ["t"] ["grid", "walks"] rfl (yk rfl B.range (za (zq zt rfl B.len yi (za (pv 0) (@zb _))) (@zb _))) (fun _ => (zm (i := 0) (show (["t", "grid", "walks"] : List Str).Nodup by decide +kernel) rfl (Or.inl rfl))) (fun _ => (@zy _)) (fun _ => (zh rc (hr.mono (by decide)) rfl (za (pv 1) (za (pv 2) (za (pv 0) (@zb _)))))) rfl (by decide +kernel) rfl rfl))), ?_⟩;rw [show start ["grid", "walks"] [V.ref g, v] = [some (V.ref g), some v] from rfl];simp only [zd, ze, ↓reduceIte];obtain ⟨as, h1, h2⟩ := G.ex;refine ⟨_, .inl h1.1, ?_⟩;rw [Za, h2];refine ⟨by omega, by omega, fun d => ?_⟩;rw [Zw];refine xz (RowPre H (zw rows) n (k + 1) s) ⟨Same.refl _, rfl, fun t ht => by omega⟩ ?_ ?_ ?_
    . rintro i ys H' hi h
      rw [h.2.1];exact Zd hi (Zd n8 (by decide))
    . rintro i ys H' hi h
      simp only [zd, ze, ↓reduceIte];exact ⟨g, rows, v, n, k, s, i, rfl, G.mono h.1, R.mono h.1, hi, hs, hk, hk2, fun H2 x ws S1 hw hl => h.snoc S1 hw hl⟩
    . rintro ys H' h l hl
      obtain ⟨S, R⟩ := h.done hl;exact q _ _ S R
theorem v6 (B : Bt mg) (xj : FnAt P w K mg base "total_of" 1 ["walk"] ow) (sm : FnAt P w K mg base "words_of" 1 ["walk"] j4) (D : zc K mg "closed_below_zero" ww ["rows"]) : FnAt P w K mg base "closed_below_zero" 2 ["rows"] zbm := by
  refine FnAt.of D sc_closed_below_zero (fun vs H Q E h => ?_) (fun f cdv A outer s H vs Q E hr h => ?_)
  . obtain ⟨T, v, n, k, rfl, _⟩ := h
    rfl
  . obtain ⟨T, v, n, k, rfl, ⟨r, xs, rfl, hr1, hlen, hall⟩, hk, n8, q0, q1⟩ := h
    refine ⟨_, (@zk _ _ _ _ _ (yx PassesOwn.never rfl (jv rfl B.enumerate (za (pv 0) (@zb _))) (qu rfl (yq (zm (i := 1) sc_closed_below_zero.nd rfl (Or.inl rfl)) (yq (zm (i := 2) sc_closed_below_zero.nd rfl (Or.inl rfl)) (@t6 _)))) (@zg _ _ _ (@y9 _ _ _ _ _ _ _ _ (@y6 _ _ _ _ _ _ _ _ ao (zh xj (hr.mono (by decide)) rfl (za (@zx _ _ _ _ _ _ _ ye (pv 2) (pv 1) (fun _ _ => rfl)) (@zb _))) (@zj _ _ _ _) (yu _)) (@zg _ _ _ (@zl _ _ _ _ (@vn _ _ _ _ _ _ _ _ _ _ cv (zh sm (hr.mono (by decide)) rfl (za (@zx _ _ _ _ _ _ _ ye (pv 2) (pv 1) (fun _ _ => rfl)) (@zb _))) (@ul _) (@uk _ _ _ (@zdy _ _ _ _ _ _ za9 (@zj _ _ _ _)))))) (@yg _)))) (@zg _ _ _ (@zl _ _ _ _ (@qv _ _ _)))), ?_⟩;rw [show start ["rows", "s", "walks"] [V.ref r] = [some (V.ref r), none, none] from rfl];simp only [zd, ze, ↓reduceIte];refine ⟨⟨_, .of hr1⟩, ?_⟩;refine zht (xs := xs) (fun i σ H2 => Same H H2 /\ (∃ v1 v2, σ = [some (.ref r), v1, v2]) /\ ∀ s, s < i -> ∀ ws, Wk n k s s ws -> 0 <= wk T s ws) ⟨Same.refl _, ⟨_, _, rfl⟩, fun s hs => by omega⟩ ?_ ?_ ?_
    . rintro i σ H2 hi ⟨S, _, _⟩
      exact S.seq (.of hr1)
    . rintro i x σ H2 U hx hU ⟨S, ⟨v1, v2, rfl⟩, no⟩
      have hi : i < n := by rw [<- hlen]; exact (Zc.mp hx).1
      obtain ⟨x', e1, R⟩ := hall i hi;rw [hx] at e1;cases e1;obtain ⟨r2, zs, rfl, hr2, hl2, hz⟩ := R;obtain ⟨y, ws, e2, hw, hL⟩ := hz i hi;obtain ⟨p, l, rfl, hp, hl1⟩ := hw;have SU : Same H (upd H2 U (.tup [V.int i, V.ref r2])) := Same.upd S (S.free hU);simp only [zd, ze, ↓reduceIte];refine ⟨_, .of zf, rfl, ?_⟩;simp only [zd, ze, ↓reduceIte];refine ⟨_, .of (SU _ _ hr2), _, ya e2, p, _, _, rfl, SU _ _ hp, ?_⟩;simp only [zd, ze, ↓reduceIte];refine ite2 (fun h => ?_) (fun h => ?_)
      . refine ⟨_, .of (SU _ _ hr2), _, ya e2, p, _, _, rfl, SU _ _ hp, ?_⟩
        simp only [zd, ze, ↓reduceIte];refine ⟨_, .of (SU _ _ hl1), fun b hb => ?_⟩;refine q1 _ i ws b (Same.upd SU (SU.free hb)) ?_ hi hL.w (of_decide_eq_true h);rw [zf, show (-1 : Int) = -1 from rfl, zgt, zcd]
      . refine ⟨SU, fun s hs us hu => ?_⟩
        by_cases e : s < i
        . exact no s e us hu
        . have : s = i := by omega
          subst this;have z := hL.least us hu;have : ¬ wk T s ws < 0 := fun y => h (decide_eq_true y)
          omega
    . rintro σ H2 ⟨S, ⟨v1, v2, rfl⟩, no⟩
      simp only [zd, ze, ↓reduceIte];exact q0 _ S fun s ws hs hw => no s (by omega) ws hw
theorem rm (B : Bt mg) (uj : FnAt P w K mg base "turn" 1 ["grid", "s", "t"] (na K)) (D : zc K mg "after_a_turn" uo ["grid", "totals", "t"]) : FnAt P w K mg base "after_a_turn" 2 ["grid", "totals", "t"] (zdj K) := by
  refine FnAt.of D dn (fun vs H Q E h => ?_) (fun f cdv A outer s H vs Q E hr h => ?_)
  . obtain ⟨g, l, rows, ts, n, t, rfl, _⟩ := h
    rfl
  . obtain ⟨g, l, rows, ts, n, t, rfl, G, hn, hl, lt, ht, q⟩ := h
    have n8 := G.n8;refine ⟨_, (@zg _ _ _ (@zl _ _ _ _ (zq (zgr rfl) rfl B.min zfn (za (z0 ["s", "total"] ["grid", "totals", "t"] rfl (jv rfl B.enumerate (za (pv 1) (@zb _))) (fun _ => (qu rfl (yq (zm (i := 0) (show (["s", "total", "grid", "totals", "t"] : List Str).Nodup by decide +kernel) rfl (Or.inl rfl)) (yq (zm (i := 1) (show (["s", "total", "grid", "totals", "t"] : List Str).Nodup by decide +kernel) rfl (Or.inl rfl)) (@t6 _))))) (fun _ => (@zy _)) (fun _ => (@zp _ _ _ _ _ _ _ _ y8 (pv 1) (zh uj (hr.mono (by decide)) rfl (za (pv 2) (za (pv 0) (za (pv 4) (@zb _))))))) rfl (by decide +kernel) rfl rfl) (@zb _))))), ?_⟩;rw [show start ["grid", "totals", "t"] [V.ref g, V.ref l, V.int t] = [some (V.ref g), some (V.ref l), some (V.int t)] from rfl];simp only [zd, ze, ↓reduceIte];refine ⟨⟨_, hl⟩, fun d => ?_⟩;refine zfs (xs := ts.map V.int) (zd6 H) ⟨Same.refl _, [], rfl, rfl⟩ ?_ ?_ ?_
    . rintro i ys H2 hi ⟨S, ns, ln, rfl⟩
      rw [Za] at hi;exact ⟨by rw [Za, ln]; exact Zd hi (Zd (show ts.length <= 8 by omega) (by decide)), S.seq hl⟩
    . rintro i x ys H2 T hx hT ⟨S, ns, ln, rfl⟩
      obtain ⟨y, hy, rfl⟩ := ym hx;have hi : i < n := by have := (Zc.mp hy).1; omega
      have S1 : Same H2 (upd H2 T (.tup [V.int i, V.int y])) := Same.upd (Same.refl _) hT;simp only [zd, ze, ↓reduceIte];refine ⟨_, .of zf, rfl, ?_⟩;generalize upd H2 T (.tup [V.int i, V.int y]) = H3 at *;simp only [zd, ze, ↓reduceIte];refine mj (G.mono (S.trans S1)) hi ht ?_;simp only [zd, ze, ↓reduceIte];exact ⟨S.trans S1, ns ++ [y + zw rows i t], by simp [ln], by simp⟩
    . rintro ys H2 ⟨S, ns, ln, rfl⟩ p hp
      rw [Za, lt] at ln;exact ⟨_, .of zf, by omega, fun m _ _ => q _ m (S.trans (Same.upd (Same.refl _) hp))⟩
theorem ng (B : Bt mg) (rm : FnAt P w K mg base "after_a_turn" 2 ["grid", "totals", "t"] (zdj K)) (nv : FnAt P w K mg base "first_gain" 3 ["grid", "pays"] (spFG K)) (D : zc K mg "has_honest" sj ["grid"]) : FnAt P w K mg base "has_honest" 4 ["grid"] (spHas K) := by
  refine FnAt.of D sc_has_honest (fun vs H Q E h => ?_) (fun f cdv A outer s H vs Q E hr h => ?_)
  . obtain ⟨g, rows, n, rfl, _⟩ := h
    rfl
  . obtain ⟨g, rows, n, rfl, G, hn, q⟩ := h
    have n8 := G.n8;refine ⟨_, (@zk _ _ _ _ _ (zz (i := 1) sc_has_honest.nd rfl (Or.inr rfl) (z0 ["row"] ["grid", "totals", "size"] rfl (@z8 _ _ _ _ (pv 0)) (fun _ => (zm (i := 0) (show (["row", "grid", "totals", "size"] : List Str).Nodup by decide +kernel) rfl (Or.inl rfl))) (fun _ => (@zy _)) (fun _ => (@zj _ _ _ _)) rfl (by decide +kernel) rfl rfl)) (@zk _ _ _ _ _ (yx PassesOwn.never rfl (js rfl B.range (za (@zj _ _ _ _) (za (@zp _ _ _ _ _ _ _ _ y8 (zq zt rfl B.len yi (za (pv 0) (@zb _))) (@zj _ _ _ _)) (@zb _)))) (zm (i := 2) sc_has_honest.nd rfl (Or.inl rfl)) (@zg _ _ _ (zz (i := 1) sc_has_honest.nd rfl (Or.inr rfl) (z0 ["t"] ["grid", "totals", "size"] rfl (yk rfl B.range (za (zq zt rfl B.len yi (za (pv 0) (@zb _))) (@zb _))) (fun _ => (zm (i := 0) (show (["t", "grid", "totals", "size"] : List Str).Nodup by decide +kernel) rfl (Or.inl rfl))) (fun _ => (@zy _)) (fun _ => (zh rm (hr.mono (by decide)) rfl (za (pv 1) (za (pv 2) (za (pv 0) (@zb _)))))) rfl (by decide +kernel) rfl rfl)))) (@zg _ _ _ (@zl _ _ _ _ (@l6 _ _ _ _ _ _ _ _ op_isN (zh nv (hr.mono (by decide)) rfl (za (pv 0) (za (pv 1) (@zb _)))) (@qv _ _ _) (yu _)))))), ?_⟩;rw [show start ["grid", "totals", "size"] [V.ref g] = [some (V.ref g), none, none] from rfl];simp only [zd, ze, ↓reduceIte];obtain ⟨as, h1, h2⟩ := G.ex;refine ⟨⟨_, h1.1⟩, fun d => ?_⟩;refine yb (xs := as.map V.ref) (zd6 H) ⟨Same.refl _, [], rfl, rfl⟩ ?_ ?_ ?_
    . rintro i ys H2 hi ⟨S, ns, ln, rfl⟩
      rw [Za, h2] at hi;exact ⟨by rw [Za, ln]; exact Zd hi (Zd n8 (by decide)), S.seq h1.1⟩
    . rintro i x ys H2 hx ⟨S, ns, ln, rfl⟩
      simp only [zd, ze, ↓reduceIte];exact ⟨S, ns ++ [0], by simp [ln], by simp⟩
    . rintro ys H2 ⟨S, ns, ln, rfl⟩ p hp
      rw [Za, h2] at ln;have S1 : Same H (upd H2 p (.lst (ns.map V.int))) := S.trans (Same.upd (Same.refl _) hp);have p1 : upd H2 p (.lst (ns.map V.int)) p = some (.lst (ns.map V.int)) := zf;generalize upd H2 p (.lst (ns.map V.int)) = H3 at *;refine ⟨_, .inl (S1.seq h1.1), ?_⟩;rw [Za, h2];refine ⟨by omega, by omega, by omega, by omega, ?_⟩;rw [show ((n : Int) + 1 - 2).toNat = n - 1 by omega];refine xr (PvTotH H g n) ⟨S1, p, ns, _, p1, ln, rfl⟩ ?_ ?_
      . rintro i σ H4 hi ⟨S4, p4, ts, v, hp4, lt, rfl⟩
        simp only [zd, ze, ↓reduceIte];refine ⟨_, .inl (S4.seq h1.1), ?_⟩;rw [Za, h2];refine ⟨by omega, by omega, fun d2 => ?_⟩;rw [Zw];refine xz (zd6 H4) ⟨Same.refl _, [], rfl, rfl⟩ ?_ ?_ ?_
        . rintro j ys H5 hj ⟨S5, ms, lm, rfl⟩
          rw [Za, lm];exact Zd hj (Zd n8 (by decide))
        . rintro j ys H5 hj ⟨S5, ms, lm, rfl⟩
          simp only [zd, ze, ↓reduceIte];exact ⟨g, p4, rows, ts, n, j, rfl, G.mono (S4.trans S5), hn, .of (S5 _ _ hp4), lt, hj, fun H6 m S6 => ⟨S5.trans S6, ms ++ [m], by simp [lm], by simp⟩⟩
        . rintro ys H5 ⟨S5, ms, lm, rfl⟩ p5 hp5
          exact ⟨S4.trans (S5.trans (Same.upd (Same.refl _) hp5)), p5, ms, _, zf, lm, rfl⟩
      . rintro σ H4 ⟨S4, p4, ts, v, hp4, lt, rfl⟩
        simp only [zd, ze, ↓reduceIte];refine ⟨g, p4, as, rows, ts, n, rfl, (GridL.mono S4 h1), h2, .of hp4, lt, n8, G.sq, fun h => ?_, fun t s h l hl => ?_⟩
        . exact q H4 true S4 fun _ => ⟨ts, fun t s ht hs => by
            have := h t s ht hs;unfold nw at this
            omega⟩
        . exact q _ false (S4.trans (Same.upd (Same.refl _) hl)) fun z => by cases z
theorem j3 (B : Bt mg) (ng : FnAt P w K mg base "has_honest" 4 ["grid"] (spHas K)) (v0 : FnAt P w K mg base "walks_of_one_turn" 2 ["grid", "s"] (spOne K)) (ug : FnAt P w K mg base "lengthened" 4 ["grid", "walks"] (zf5 K)) (v6 : FnAt P w K mg base "closed_below_zero" 2 ["rows"] zbm)
    (D : zc K mg "ring" eg ["grid"]) : FnAt P w K mg base "ring" 5 ["grid"] (zbi K) := by
  refine FnAt.of D sc_ring (fun vs H Q E h => ?_) (fun f cdv A outer s H vs Q E hr h => ?_)
  . obtain ⟨g, rows, n, rfl, _⟩ := h
    rfl
  . obtain ⟨g, rows, n, rfl, G0, hn, q00, q10⟩ := h
    have n8 := G0.n8;refine ⟨_, (@zk _ _ _ _ _ (@y9 _ _ _ _ _ _ _ _ (w5 (zh ng (hr.mono (by decide)) rfl (za (pv 0) (@zb _)))) (@zg _ _ _ (@zl _ _ _ _ (@qv _ _ _))) (@yg _)) (@zk _ _ _ _ _ (re (i := 1) ["s"] ["grid", "rows", "size", "found"] sc_ring.nd rfl rfl rfl (yk rfl B.range (za (zq zt rfl B.len yi (za (pv 0) (@zb _))) (@zb _))) (fun _ => (zm (i := 0) (show (["s", "grid", "rows", "size", "found"] : List Str).Nodup by decide +kernel) rfl (Or.inl rfl))) (fun _ => (@zy _)) (fun _ => (zh v0 (hr.mono (by decide)) rfl (za (pv 1) (za (pv 0) (@zb _))))) rfl (by decide +kernel) rfl rfl rfl) (@zk _ _ _ _ _ (yx PassesOwn.never rfl (js rfl B.range (za (@zj _ _ _ _) (za (@zp _ _ _ _ _ _ _ _ y8 (zq zt rfl B.len yi (za (pv 0) (@zb _))) (@zj _ _ _ _)) (@zb _)))) (zm (i := 2) sc_ring.nd rfl (Or.inl rfl)) (@zk _ _ _ _ _ (re (i := 1) ["walks"] ["grid", "rows", "size", "found"] sc_ring.nd rfl rfl rfl (@z8 _ _ _ _ (pv 1)) (fun _ => (zm (i := 0) (show (["walks", "grid", "rows", "size", "found"] : List Str).Nodup by decide +kernel) rfl (Or.inl rfl))) (fun _ => (@zy _)) (fun _ => (zh ug (hr.mono (by decide)) rfl (za (pv 1) (za (pv 0) (@zb _))))) rfl (by decide +kernel) rfl rfl rfl) (@zk _ _ _ _ _ (zz (i := 3) sc_ring.nd rfl (Or.inl rfl) (zh v6 (hr.mono (by decide)) rfl (za (pv 1) (@zb _)))) (@zg _ _ _ (@y9 _ _ _ _ _ _ _ _ (@y6 _ _ _ _ _ _ _ _ cq (pv 3) (@qv _ _ _) (yu _)) (@zg _ _ _ (@zl _ _ _ _ (pv 3))) (@yg _)))))) (@zg _ _ _ (@zl _ _ _ _ (@qv _ _ _)))))), ?_⟩;rw [show start ["grid", "rows", "size", "found"] [V.ref g] = [some (V.ref g), none, none, none] from rfl];simp only [zd, ze, ↓reduceIte];refine ⟨g, rows, n, rfl, G0, hn, fun H0 hb S0 hHon => ?_⟩;refine ⟨hb, rfl, ite2 (fun hy => ?_) fun _ => ?_⟩
    . obtain ⟨ps, hps⟩ := hHon hy
      exact q00 H0 S0 fun j _ => hps.no j
    have G := G0.mono S0;have q0 : ∀ H', Same H0 H' -> (∀ j, j <= n -> NoNeg (zw rows) n j) -> Q .non H' := fun H' S' h => q00 H' (S0.trans S') h
    have q1 : ∀ H' l c, Same H0 H' -> H' l = some (.lst ((nI c).map V.int)) -> RingA (zw rows) n c -> Q (.ref l) H' := fun H' l c S' h1 h2 => q10 H' l c (S0.trans S') h1 h2
    obtain ⟨as, h1, h2⟩ := G.ex;refine ⟨_, .inl h1.1, ?_⟩;rw [Za, h2];refine ⟨by omega, by omega, fun d => ?_⟩;rw [Zw];refine xz (RowsPre H0 (zw rows) n 1) ⟨Same.refl _, rfl, fun t ht => by omega⟩ ?_ ?_ ?_
    . rintro i ys H' hi h
      rw [h.2.1];exact Zd hi (Zd n8 (by decide))
    . rintro i ys H' hi h
      simp only [zd, ze, ↓reduceIte];exact ⟨g, rows, n, i, rfl, G.mono h.1, hi, fun H2 x S1 hR => h.snoc S1 hR⟩
    . rintro ys H' h l hl
      obtain ⟨S, R⟩ := h.done hl;generalize upd H' l (.lst ys) = H1 at *;refine ⟨_, .inl (S.seq h1.1), ?_⟩;rw [Za, h2];refine ⟨by omega, by omega, by omega, by omega, ?_⟩;rw [show ((n : Int) + 1 - 2).toNat = n - 1 by omega];refine xr (fun i σ H2 => Same H0 H2 /\ (∃ v v2 v3, σ = [some (.ref g), some v, v2, v3] /\ RowsAt H2 v (zw rows) n (i + 1)) /\ ∀ j, j <= i + 1 -> NoNeg (zw rows) n j) ⟨S, ⟨_, _, _, rfl, R⟩, fun j hj => ?_⟩ ?_ ?_
      . have : j = 0 \/ j = 1 := by omega
        rcases this with rfl | rfl
        . exact NoNeg.zero _ _
        . exact NoNeg.one (e6 rows) _
      . rintro i σ H2 hi ⟨S2, ⟨v, v2, v3, rfl, ⟨r, xs, rfl, hr1, hlen, hall⟩⟩, no⟩
        simp only [zd, ze, ↓reduceIte];refine ⟨⟨_, .of hr1⟩, fun d2 => ?_⟩;refine yb (xs := xs) (RowsPre H2 (zw rows) n (i + 1 + 1)) ⟨Same.refl _, rfl, fun t ht => by omega⟩ ?_ ?_ ?_
        . rintro j ys H' hj h
          rw [h.2.1];exact ⟨Zd hj (Zd (by omega) (show 8 <= sizeLine by decide)), h.1.seq (.of hr1)⟩
        . rintro j x ys H' hx h
          have hj : j < n := by rw [<- hlen]; exact (Zc.mp hx).1
          obtain ⟨x', e1, R⟩ := hall j hj;rw [hx] at e1;cases e1;simp only [zd, ze, ↓reduceIte];exact ⟨g, rows, x, n, i + 1, j, rfl, G.mono (S2.trans h.1), R.mono h.1, hj, by omega, by omega, fun H3 v' S3 hR => h.snoc S3 hR⟩
        . rintro ys H' h l hl
          rw [hlen] at h;obtain ⟨S3, R3⟩ := h.done hl;generalize upd H' l (.lst ys) = H3 at *;refine ⟨zw rows, .ref l, n, i + 2, rfl, R3, by omega, n8, fun H4 S4 hno => ?_, fun H4 s ws b S4 hb hs hw hneg => ?_⟩
          . simp only [zd, ze, ↓reduceIte]
            refine ⟨S2.trans (S3.trans S4), R3.mono S4, fun j hj => ?_⟩
            by_cases e : j <= i + 1
            . exact no j e
            . have : j = i + 2 := by omega
              subst this;exact hno
          . simp only [zd, ze, ↓reduceIte]
            refine q1 H4 b _ (S2.trans (S3.trans S4)) hb (RingA.of (e6 rows) hs hw hneg fun j hj => no j (by omega))
      . rintro σ H2 ⟨S2, ⟨v, v2, v3, rfl, _⟩, no⟩
        simp only [zd, ze, ↓reduceIte];exact q0 H2 S2 fun j hj => no j (by omega)
end
structure Rd (T : Nat -> Nat -> Int) (b : Nat -> Int) (S : Nat -> Prop) (n k t : Nat) (e : Int × List Nat) : Prop where
  ex : ∃ s ws, e.2 = s :: ws /\ S s /\ s < n /\ lst s ws = t /\ (∀ x ∈ ws, x < n) /\ e.1 = b s + wk T s ws /\ (s :: ws).Nodup /\ ws.length <= k
def Low (T : Nat -> Nat -> Int) (b : Nat -> Int) (S : Nat -> Prop) (n k t : Nat) (i : Int) : Prop := ∀ s ws, S s -> s < n -> lst s ws = t -> (∀ x ∈ ws, x < n) -> ws.length <= k -> i <= b s + wk T s ws
structure Rds (T : Nat -> Nat -> Int) (b : Nat -> Int) (S : Nat -> Prop) (n k : Nat) (f : Nat -> Int × List Nat) : Prop where
  rd : ∀ t, t < n -> Rd T b S n k t (f t)
  low : ∀ t, t < n -> Low T b S n k t (f t).1
theorem zdd {n : Nat} : ∀ (ws : List Nat) (s : Nat), s < n -> (∀ x ∈ ws, x < n) -> lst s ws < n
  | [], _, h, _ => h
  | w :: ws, _, _, h => zdd ws w (h w ZA) fun x hx => h x (Zv _ hx)
theorem lst_lt {n : Nat} {ws : List Nat} {s : Nat} (hs : s < n) (h : ∀ x ∈ ws, x < n) : lst s ws < n := zdd ws s hs h
theorem back {T : Nat -> Nat -> Int} {b : Nat -> Int} {S : Nat -> Prop} {n k i t s : Nat} {ws : List Nat} {m : Int} (no : ∀ k, NoNeg T n k) (ht : t < n) (hS : S s) (hs : s < n) (hto : lst s ws = i) (hlt : ∀ x ∈ ws, x < n) (hk : ws.length <= k) (hl : Low T b S n k t m) (hm : t ∈ s :: ws) : m <= b s + wk T s ws + T i t := by
  have closed : ∀ C : List Nat, (∀ x ∈ C, x < n) -> lst t C = i -> 0 <= wk T t C + T i t := fun C hC hi => by
    have := no (C.length + 1) t (C ++ [t]) ht ⟨by simp, fun x hx => by
      rcases ZH.mp hx with z | z
      . exact hC x z
      . rw [ZC.mp z]; exact ht, wc _ _ _⟩
    rw [vv, hi] at this;exact this
  rcases ZK.mp hm with z | z
  . subst z
    have h1 := hl t [] hS hs rfl (fun x hx => nomatch hx) (ZE _);have h2 := closed ws hlt hto;have h3 : wk T t [] = 0 := rfl;omega
  . obtain ⟨A, C, rfl⟩ := List.append_of_mem z
    have hA : ∀ x ∈ A ++ [t], x < n := fun x hx => hlt x (by
      rcases ZH.mp hx with z | z
      . exact ZV _ z
      . rw [ZC.mp z]; simp)
    have h1 := hl s (A ++ [t]) hS hs (wc _ _ _) hA (by simp at hk ⊢; omega);rw [cj] at hto;have h2 := closed C (fun x hx => hlt x (Zu _ (Zv _ hx))) hto;rw [lj];omega
theorem Rds.step {T : Nat -> Nat -> Int} {b : Nat -> Int} {S : Nat -> Prop} {n k : Nat} {f f' : Nat -> Int × List Nat} (no : ∀ k, NoNeg T n k) (R : Rds T b S n k f)
    (h : ∀ t, t < n -> ∃ i, i < n /\ (∀ u, u < n -> (f i).1 + T i t <= (f u).1 + T u t) /\ (((f i).1 + T i t < (f t).1 /\ f' t = ((f i).1 + T i t, (f i).2 ++ [t])) \/ ((f t).1 <= (f i).1 + T i t /\ f' t = f t))) : Rds T b S n (k + 1) f' := by
  refine ⟨fun t ht => ?_, fun t ht => ?_⟩
  . obtain ⟨i, hi, hm, hc⟩ := h t ht
    rcases hc with ⟨hlt, e⟩ | ⟨_, e⟩
    . obtain ⟨s, ws, e1, hS, hs, hto, hw, hv, hd, hk⟩ := (R.rd i hi).ex
      have hn : t ∉ s :: ws := fun z => by
        have := back no ht hS hs hto hw hk (R.low t ht) z;omega
      rw [e];refine ⟨s, ws ++ [t], by rw [e1]; rfl, hS, hs, wc _ _ _, fun x hx => ?_, ?_, ?_, by simp; exact hk⟩
      . rcases ZH.mp hx with z | z
        . exact hw x z
        . rw [ZC.mp z]; exact ht
      . show (f i).1 + T i t = _
        rw [vv, hto, hv]; omega
      . show ((s :: ws) ++ [t]).Nodup
        refine Yh.mpr ⟨hd, by simp, fun x hx y hy => ?_⟩;rw [ZC.mp hy]
        rintro rfl
        exact hn hx
    . obtain ⟨s, ws, e1, hS, hs, hto, hw, hv, hd, hk⟩ := (R.rd t ht).ex
      rw [e];exact ⟨s, ws, e1, hS, hs, hto, hw, hv, hd, by omega⟩
  . obtain ⟨i, hi, hm, hc⟩ := h t ht
    have h1 : (f' t).1 <= (f t).1 /\ (f' t).1 <= (f i).1 + T i t := by
      rcases hc with ⟨hlt, e⟩ | ⟨hlt, e⟩ <;> rw [e]
      . exact ⟨by show (f i).1 + T i t <= _; omega, Yr _⟩
      . exact ⟨Yr _, hlt⟩
    intro s ws hS hs hto hw hk
    by_cases hk' : ws.length <= k
    . have := R.low t ht s ws hS hs hto hw hk'
      omega
    . obtain ⟨w, r, rfl⟩ : ∃ w r, ws = w :: r := by
        cases ws with
        | nil => simp at hk'
        | cons w r => exact ⟨w, r, rfl⟩
      have e1 := uh r w;have e2 : lst w r = t := hto;rw [e2] at e1;generalize hp : (w :: r).dropLast = p at e1;rw [e1] at hw hk ⊢;have hwp : ∀ x ∈ p, x < n := fun x hx => hw x (ZV _ hx)
      have hu := lst_lt hs hwp;have q1 := R.low (lst s p) hu s p hS hs rfl hwp (by simp at hk; exact hk);have q2 := hm (lst s p) hu;rw [vv];omega
theorem Rds.honest {T : Nat -> Nat -> Int} {b : Nat -> Int} {S : Nat -> Prop} {n k : Nat} {f : Nat -> Int × List Nat} (no : ∀ k, NoNeg T n k) (R : Rds T b S n k f) (hk : n <= k + 1) {s t : Nat} (hs : s < n) (ht : t < n) : (f t).1 <= (f s).1 + T s t := by
  obtain ⟨s0, ws, e1, hS, hs0, hto, hw, hv, hd, hk2⟩ := (R.rd s hs).ex
  by_cases hm : t ∈ s0 :: ws
  . have := back no ht hS hs0 hto hw hk2 (R.low t ht) hm
    omega
  . have hd2 : (s0 :: (ws ++ [t])).Nodup := by
      show ((s0 :: ws) ++ [t]).Nodup
      refine Yh.mpr ⟨hd, by simp, fun x hx y hy => ?_⟩;rw [ZC.mp hy]
      rintro rfl
      exact hm hx
    have hw2 : ∀ x ∈ ws ++ [t], x < n := fun x hx => by
      rcases ZH.mp hx with z | z
      . exact hw x z
      . rw [ZC.mp z]; exact ht
    have hl := few hd2 (fun x hx => by
      rcases ZK.mp hx with z | z
      . rw [z]; exact hs0
      . exact hw2 x z)
    have := R.low t ht s0 (ws ++ [t]) hS hs0 (wc _ _ _) hw2 (by simp at hl ⊢; omega);rw [vv, hto] at this;omega
theorem Rds.one {T : Nat -> Nat -> Int} {b : Nat -> Int} {n : Nat} {f : Nat -> Int × List Nat} (h : ∀ t, t < n -> f t = (b t, [t])) : Rds T b (fun _ => True) n 0 f := by
  refine ⟨fun t ht => ⟨t, [], by rw [h t ht], trivial, ht, rfl, (fun x hx => nomatch hx), by rw [h t ht]; show b t = b t + 0; omega, by simp, Zm _⟩, fun t ht s ws _ hs hto hw hk => ?_⟩
  cases ws with
  | nil =>
    have e : s = t := hto;subst e;rw [h s ht]
    show b s <= b s + 0
    omega
  | cons _ _ => simp at hk
structure WsL (H : Hp) (xs : List V) (fs : List (Int × List Nat × Addr)) : Prop where
  len : xs.length = fs.length
  at' : ∀ (t : Nat) e, fs[t]? = some e -> ∃ p, xs[t]? = some (V.ref p) /\ H p = some (.tup [.int e.1, .ref e.2.2]) /\ H e.2.2 = some (.lst ((nI e.2.1).map V.int))
theorem WsL.mono {H H' : Hp} {xs : List V} {fs : List (Int × List Nat × Addr)} (S : Same H H') (h : WsL H xs fs) : WsL H' xs fs := ⟨h.len, fun t e he => by
  obtain ⟨p, a1, a2, a3⟩ := h.at' t e he
  exact ⟨p, a1, S _ _ a2, S _ _ a3⟩⟩
theorem WsL.nil {H : Hp} : WsL H [] [] := ⟨rfl, fun t e he => by simp at he⟩
theorem ue {α : Type} {xs : List α} {x y : α} {t : Nat} (h : (xs ++ [x])[t]? = some y) : xs[t]? = some y \/ (t = xs.length /\ y = x) := by
  by_cases ht : t < xs.length
  . rw [Zg ht] at h
    exact .inl h
  . have ht' : xs.length <= t := ZD.mp ht
    rw [Zf ht'] at h
    have h0 : t - xs.length = 0 := by
      have := (Zc.mp h).1;simp at this; omega
    rw [h0] at h;simp at h;exact .inr ⟨by omega, h.symm⟩
theorem vq {α : Type} {xs : List α} {y : α} {t : Nat} (h : xs[t]? = some y) : t < xs.length := (Zc.mp h).1
theorem io {α : Type} {xs : List α} {x d : α} {t : Nat} (h : xs[t]? = some x) : xs.getD t d = x := by rw [Zk, h]; rfl
theorem vp {α : Type} {xs : List α} {t : Nat} (h : t < xs.length) : ∃ y, xs[t]? = some y := ⟨xs[t], by simp [h]⟩
theorem WsL.snoc {H H' : Hp} {xs : List V} {fs : List (Int × List Nat × Addr)} {p l : Addr} {i : Int} {ws : List Nat} (h : WsL H xs fs) (S : Same H H') (hp : H' p = some (.tup [.int i, .ref l])) (hl : H' l = some (.lst ((nI ws).map V.int))) : WsL H' (xs ++ [.ref p]) (fs ++ [(i, ws, l)]) := by
  refine ⟨by simp [h.len], fun t e he => ?_⟩
  rcases ue he with z | ⟨z, rfl⟩
  . obtain ⟨q, a1, a2, a3⟩ := h.at' t e z
    exact ⟨q, by rw [Zg (vq a1)]; exact a1, S _ _ a2, S _ _ a3⟩
  . refine ⟨p, ?_, hp, hl⟩
    rw [z, Zf (by rw [h.len]; exact Zm _), h.len];simp
def Dis (fs : List (Int × List Nat × Addr)) : Prop := ∀ (t u : Nat) e d, fs[t]? = some e -> fs[u]? = some d -> e.2.2 = d.2.2 -> t = u
theorem Dis.nil : Dis [] := fun t u e d he => by simp at he
theorem Dis.snoc {H : Hp} {xs : List V} {fs : List (Int × List Nat × Addr)} {l : Addr} {i : Int} {ws : List Nat} (h : Dis fs) (w : WsL H xs fs) (hl : H l = none) : Dis (fs ++ [(i, ws, l)]) := by
  have old : ∀ (t : Nat) e, fs[t]? = some e -> e.2.2 ≠ l := fun t e he z => by
    obtain ⟨p, _, _, a3⟩ := w.at' t e he;rw [z, hl] at a3;cases a3
  intro t u e d he hd ee
  rcases ue he with z | ⟨z, rfl⟩ <;> rcases ue hd with z' | ⟨z', rfl⟩
  . exact h t u e d z z' ee
  . exact absurd ee (old t e z)
  . exact absurd ee.symm (old u d z')
  . rw [z, z']
def zeh (fs : List (Int × List Nat × Addr)) : Prop := ∀ (t : Nat) e, fs[t]? = some e -> ∃ a ws, e.2.1 = a :: ws /\ il a ws = t /\ ws.length <= 100
structure zfd (T : Nat -> Nat -> Int) (H : Hp) (fs gs : List (Int × List Nat × Addr)) (n : Nat) : Prop where
  len : gs.length = n
  dis : Dis gs
  new : ∀ (t : Nat) e, gs[t]? = some e -> H e.2.2 = none
  min : ∀ (t : Nat) e', gs[t]? = some e' -> ∃ i e, fs[i]? = some e /\ (∀ u d, fs[u]? = some d -> e.1 + T i t <= d.1 + T u t) /\ e'.1 = e.1 + T i t /\ e'.2.1 = e.2.1 ++ [t]
def zbt (K : Fg) : Sp := fun vs H Q _ => ∃ (g r : Addr) (rows : List (List Int)) (xs : List V) (fs : List (Int × List Nat × Addr)) (n t : Nat), vs = [.ref g, .ref r, .int t] /\ Gd K H g rows n /\ H r = some (.lst xs) /\ WsL H xs fs /\ fs.length = n /\ zeh fs /\ t < n /\
  ∀ H' p l i e, Same H H' -> H l = none -> fs[i]? = some e -> (∀ u d, fs[u]? = some d -> e.1 + zw rows i t <= d.1 + zw rows u t) -> H' p = some (.tup [.int (e.1 + zw rows i t), .ref l]) -> H' l = some (.lst ((nI (e.2.1 ++ [t])).map V.int)) -> Q (.ref p) H'
def zc5 (K : Fg) : Sp := fun vs H Q _ => ∃ (g r : Addr) (rows : List (List Int)) (xs : List V) (fs : List (Int × List Nat × Addr)) (n : Nat), vs = [.ref g, .ref r] /\ Gd K H g rows n /\ H r = some (.lst xs) /\ WsL H xs fs /\ fs.length = n /\ zeh fs /\
  ∀ H' r' ys gs, Same H H' -> H' r' = some (.lst ys) -> WsL H' ys gs -> zfd (zw rows) H fs gs n -> Q (.ref r') H'
def zat : Sp := fun vs H Q _ => ∃ (p q : Addr) (i j : Int) (l m : V), vs = [.ref p, .ref q] /\ H p = some (.tup [.int i, l]) /\ H q = some (.tup [.int j, m]) /\ (j < i -> Q (.ref q) H) /\ (i <= j -> Q (.ref p) H)
section
variable {P : Program} {w : World} {K : Fg} {mg : Str -> Option Value} {base : Heap}
theorem zd3 (B : Bt mg) (uj : FnAt P w K mg base "turn" 1 ["grid", "s", "t"] (na K)) (xj : FnAt P w K mg base "total_of" 1 ["walk"] ow) (D : zc K mg "least_to" sh ["grid", "walks", "t"]) : FnAt P w K mg base "least_to" 3 ["grid", "walks", "t"] (zbt K) := by
  refine FnAt.of D sc_least_to (fun vs H Q E h => ?_) (fun f cdv A outer s H vs Q E hr h => ?_)
  . obtain ⟨g, r, rows, xs, fs, n, t, rfl, _⟩ := h
    rfl
  . obtain ⟨g, r, rows, xs, fs, n, t, rfl, G, hr1, W, hlen, hend, ht, q⟩ := h
    have n8 := G.n8;have hxl := W.len;refine ⟨_, (@zk _ _ _ _ _ (re (i := 3) ["total", "words"] ["grid", "walks", "t", "longer"] sc_least_to.nd rfl rfl rfl (@z8 _ _ _ _ (pv 1)) (fun _ => (qu rfl (yq (zm (i := 0) (show (["total", "words", "grid", "walks", "t", "longer"] : List Str).Nodup by decide +kernel) rfl (Or.inl rfl)) (yq (zm (i := 1) (show (["total", "words", "grid", "walks", "t", "longer"] : List Str).Nodup by decide +kernel) rfl (Or.inl rfl)) (@t6 _))))) (fun _ => (@zy _)) (fun _ => (@y7 _ _ _ _ _ (za (@zp _ _ _ _ _ _ _ _ y8 (pv 0) (zh uj (hr.mono (by decide)) rfl (za (pv 2) (za (@zx _ _ _ _ _ _ _ ye (pv 1) (@zdy _ _ _ _ _ _ za9 (@zj _ _ _ _)) (fun _ _ => rfl)) (za (pv 4) (@zb _)))))) (za (@zp _ _ _ _ _ _ _ _ zbk (pv 1) (@wj _ _ _ _ (za (pv 4) (@zb _)))) (@zb _))))) rfl (by decide +kernel) rfl rfl rfl) (@zg _ _ _ (@zl _ _ _ _ (zdp xj (hr.mono (by decide)) rfl rfl B.min rfl (za (pv 3) (@zb _)))))), ?_⟩;rw [show start ["grid", "walks", "t", "longer"] [V.ref g, V.ref r, V.int t] = [some (V.ref g), some (V.ref r), some (V.int t), none] from rfl];simp only [zd, ze, ↓reduceIte];refine ⟨⟨_, .of hr1⟩, fun d => ?_⟩;refine yb (xs := xs) (fun i ys H2 => Same H H2 /\ ∃ gs, WsL H2 ys gs /\ gs.length = i /\ ∀ (u : Nat) e', gs[u]? = some e' -> H e'.2.2 = none /\ ∃ e, fs[u]? = some e /\ e'.1 = e.1 + zw rows u t /\ e'.2.1 = e.2.1 ++ [t]) ⟨Same.refl _, [], WsL.nil, rfl, fun u e he => by simp at he⟩ ?_ ?_ ?_
    . rintro i ys H2 hi ⟨S, gs, W2, hl, _⟩
      exact ⟨by rw [W2.len, hl]; exact Zd hi (Zd (show xs.length <= 8 by omega) (by decide)), S.seq (.of hr1)⟩
    . rintro i x ys H2 hx ⟨S, gs, W2, hl, hy⟩
      have hi : i < n := by have := vq hx; omega
      obtain ⟨e, he⟩ := vp (xs := fs) (t := i) (by omega);obtain ⟨p, a1, a2, a3⟩ := W.at' i e he;rw [hx] at a1;cases a1;obtain ⟨s0, ws, e1, e2, e3⟩ := hend i e he;rw [e1] at a3;have hp2 := S _ _ a2;have hl2 := S _ _ a3;simp only [zd, ze, ↓reduceIte];refine ⟨_, .of hp2, rfl, ?_⟩;simp only [zd, ze, ↓reduceIte];refine ⟨_, .of hl2, _, zcx s0 ws, ?_⟩;rw [e2];refine mj (G.mono S) hi ht ?_;simp only [zd, ze, ↓reduceIte];refine ⟨by show 1 <= sizeLine; decide, fun b hb => ?_⟩;have S1 : Same H2 (upd H2 b (.lst [V.int t])) := Same.upd (Same.refl _) hb;refine ⟨_, S1 _ _ hl2, _, zf, ?_, fun c hc => ⟨by show 2 <= sizeLine; decide, fun z hz => ?_⟩⟩
      . simp only [nI, Za, ZL, ZZ]
        exact Zd (show ws.length + 1 + 1 <= 102 by omega) (by decide)
      . have S2 : Same (upd H2 b (.lst [V.int t])) (upd (upd H2 b (.lst [V.int t])) c (.lst ((nI (s0 :: ws)).map V.int ++ [V.int t]))) := Same.upd (Same.refl _) hc
        have hc2 : upd (upd H2 b (.lst [V.int t])) c (.lst ((nI (s0 :: ws)).map V.int ++ [V.int t])) c = some (.lst ((nI (e.2.1 ++ [t])).map V.int)) := by rw [zf, zc7, e1]
        have hcH : H c = none := (S.trans S1).free hc;have S3 := Same.upd (o := .tup [V.int (e.1 + zw rows i t), V.ref c]) (Same.refl (upd (upd H2 b (.lst [V.int t])) c (.lst ((nI (s0 :: ws)).map V.int ++ [V.int t])))) hz;have SS := S1.trans (S2.trans S3);refine ⟨S.trans SS, gs ++ [(e.1 + zw rows i t, e.2.1 ++ [t], c)], W2.snoc SS zf (S3 _ _ hc2), by simp [hl], fun u e' hu => ?_⟩
        rcases ue hu with y | ⟨y, rfl⟩
        . exact hy u e' y
        . rw [y, hl]
          exact ⟨hcH, e, he, rfl, rfl⟩
    . rintro ys H2 ⟨S, gs, W2, hl, hy⟩ lo hlo
      have S1 : Same H2 (upd H2 lo (.lst ys)) := Same.upd (Same.refl _) hlo;have hyl := W2.len;refine ⟨ys, .of zf, by omega, fun u => (gs.getD u (0, [], 0)).1, fun i x hx => ?_, fun i x hx hm => ?_⟩
      . obtain ⟨e', he'⟩ := vp (xs := gs) (t := i) (by have := vq hx; omega)
        obtain ⟨p, a1, a2, a3⟩ := W2.at' i e' he';rw [hx] at a1;cases a1;refine ⟨p, _, _, rfl, S1 _ _ a2, ?_, rfl⟩
        show V.int e'.1 = V.int (gs.getD i (0, [], 0)).1
        rw [io he']
      . obtain ⟨e', he'⟩ := vp (xs := gs) (t := i) (by have := vq hx; omega)
        obtain ⟨p, a1, a2, a3⟩ := W2.at' i e' he';rw [hx] at a1;cases a1;obtain ⟨h0, e, b1, b2, b3⟩ := hy i e' he';rw [b2] at a2;rw [b3] at a3;refine q _ p e'.2.2 i e (S.trans S1) h0 b1 (fun u d hu => ?_) (S1 _ _ a2) (S1 _ _ a3);obtain ⟨d', hd'⟩ := vp (xs := gs) (t := u) (by have := vq hu; omega);obtain ⟨_, d2, c1, c2, c3⟩ := hy u d' hd';rw [hu] at c1;cases c1;have z := (hm u (by have := vq hu; omega)).1;have z' : (gs.getD i (0, [], 0)).1 <= (gs.getD u (0, [], 0)).1 := z;rw [io he', io hd'] at z';omega
theorem zbg (B : Bt mg) (rc : FnAt P w K mg base "least_to" 3 ["grid", "walks", "t"] (zbt K)) (D : zc K mg "lengthened" uc ["grid", "walks"]) : FnAt P w K mg base "lengthened" 4 ["grid", "walks"] (zc5 K) := by
  refine FnAt.of D jl (fun vs H Q E h => ?_) (fun f cdv A outer s H vs Q E hr h => ?_)
  . obtain ⟨g, r, rows, xs, fs, n, rfl, _⟩ := h
    rfl
  . obtain ⟨g, r, rows, xs, fs, n, rfl, G, hr1, W, hlen, hend, q⟩ := h
    have n8 := G.n8;refine ⟨_, (@zg _ _ _ (@zl _ _ _ _ (z0 ["t"] ["grid", "walks"] rfl (yk rfl B.range (za (zq zt rfl B.len yi (za (pv 0) (@zb _))) (@zb _))) (fun _ => (zm (i := 0) (show (["t", "grid", "walks"] : List Str).Nodup by decide +kernel) rfl (Or.inl rfl))) (fun _ => (@zy _)) (fun _ => (zh rc (hr.mono (by decide)) rfl (za (pv 1) (za (pv 2) (za (pv 0) (@zb _)))))) rfl (by decide +kernel) rfl rfl))), ?_⟩;rw [show start ["grid", "walks"] [V.ref g, V.ref r] = [some (V.ref g), some (V.ref r)] from rfl];simp only [zd, ze, ↓reduceIte];obtain ⟨as, h1, h2⟩ := G.ex;refine ⟨_, .inl h1.1, ?_⟩;rw [Za, h2];refine ⟨by omega, by omega, fun d => ?_⟩;rw [Zw];refine xz (fun i ys H2 => Same H H2 /\ ∃ gs, WsL H2 ys gs /\ zfd (zw rows) H fs gs i) ⟨Same.refl _, [], WsL.nil, rfl, Dis.nil, fun t e he => by simp at he, fun t e he => by simp at he⟩ ?_ ?_ ?_
    . rintro i ys H' hi ⟨S, gs, W2, L⟩
      rw [W2.len, L.len];exact Zd hi (Zd n8 (by decide))
    . rintro i ys H' hi ⟨S, gs, W2, L⟩
      simp only [zd, ze, ↓reduceIte];refine ⟨g, r, rows, xs, fs, n, i, rfl, G.mono S, S _ _ hr1, W.mono S, hlen, hend, hi, fun H2 p l j e S2 hl hj hm hp hl2 => ?_⟩;refine ⟨S.trans S2, gs ++ [(e.1 + zw rows j i, e.2.1 ++ [i], l)], W2.snoc S2 hp hl2, by simp [L.len], L.dis.snoc W2 hl, fun t e' he' => ?_, fun t e' he' => ?_⟩
      . rcases ue he' with y | ⟨y, rfl⟩
        . exact L.new t e' y
        . exact S.free hl
      . rcases ue he' with y | ⟨y, rfl⟩
        . exact L.min t e' y
        . rw [y, L.len]
          exact ⟨j, e, hj, hm, rfl, rfl⟩
    . rintro ys H' ⟨S, gs, W2, L⟩ l hl
      have S1 : Same H' (upd H' l (.lst ys)) := Same.upd (Same.refl _) hl;exact q _ l ys gs (S.trans S1) zf (W2.mono S1) L
theorem g0 (xj : FnAt P w K mg base "total_of" 1 ["walk"] ow) (D : zc K mg "lesser" je ["walk", "longer"]) : FnAt P w K mg base "lesser" 2 ["walk", "longer"] zat := by
  refine FnAt.of D zfe (fun vs H Q E h => ?_) (fun f cdv A outer s H vs Q E hr h => ?_)
  . obtain ⟨p, q, i, j, l, m, rfl, _⟩ := h
    rfl
  . obtain ⟨p, q, i, j, l, m, rfl, hp, hq, q1, q2⟩ := h
    refine ⟨_, (@zg _ _ _ (@zl _ _ _ _ (@zhf _ _ _ _ _ _ _ _ (@y6 _ _ _ _ _ _ _ _ ao (zh xj (hr.mono (by decide)) rfl (za (pv 1) (@zb _))) (zh xj (hr.mono (by decide)) rfl (za (pv 0) (@zb _))) (yu _)) (pv 1) (pv 0)))), ?_⟩;rw [show start ["walk", "longer"] [V.ref p, V.ref q] = [some (V.ref p), some (V.ref q)] from rfl];simp only [zd, ze, ↓reduceIte];refine ⟨q, j, m, rfl, hq, ?_⟩;simp only [zd, ze, ↓reduceIte];refine ⟨p, i, l, rfl, hp, ?_⟩;simp only [zd, ze, ↓reduceIte];exact ite2 (fun h => q1 (of_decide_eq_true h)) fun h => q2 (Int.not_lt.mp fun z => h (decide_eq_true z))
end
def fOf (fs : List (Int × List Nat × Addr)) (t : Nat) : Int × List Nat := ((fs.getD t (0, [], 0)).1, (fs.getD t (0, [], 0)).2.1)
theorem uf {fs : List (Int × List Nat × Addr)} {t : Nat} {e : Int × List Nat × Addr} (h : fs[t]? = some e) : fOf fs t = (e.1, e.2.1) := by unfold fOf; rw [io h]
theorem Rds.endOk {T : Nat -> Nat -> Int} {b : Nat -> Int} {S : Nat -> Prop} {n k : Nat} {fs : List (Int × List Nat × Addr)} (R : Rds T b S n k (fOf fs)) (hl : fs.length = n) (hk : k <= 100) : zeh fs := fun t e he => by
  obtain ⟨s, ws, e1, hS, hs, hto, hw, hv, hd, hk2⟩ := (R.rd t (by have := vq he; omega)).ex;rw [uf he] at e1;exact ⟨s, ws, e1, by rw [<- zd8]; exact hto, by omega⟩
structure Told (T : Nat -> Nat -> Int) (b : Nat -> Int) (S : Nat -> Prop) (n k : Nat) (fs gs : List (Int × List Nat × Addr)) : Prop where
  len : gs.length = n
  dis : Dis gs
  rds : Rds T b S n k (fOf gs)
  le : ∀ t, t < n -> (fOf gs t).1 <= (fOf fs t).1
def zc6 (K : Fg) : Sp := fun vs H Q _ => ∃ (g r : Addr) (rows : List (List Int)) (xs : List V) (fs : List (Int × List Nat × Addr)) (n k : Nat) (b : Nat -> Int) (S : Nat -> Prop), vs = [.ref g, .ref r] /\ Gd K H g rows n /\ 0 < n /\ (∀ k, NoNeg (zw rows) n k) /\ H r = some (.lst xs) /\ WsL H xs fs /\
  fs.length = n /\ Dis fs /\ Rds (zw rows) b S n k (fOf fs) /\ k <= 1 /\ ∀ H' r' ys gs, Same H H' -> H' r' = some (.lst ys) -> WsL H' ys gs -> Told (zw rows) b S n (k + (n - 1)) fs gs -> Q (.ref r') H'
def PvMix (H3 : Hp) (gs hs : List (Int × List Nat × Addr)) (i : Nat) (vs : List V) (H4 : Hp) : Prop := Same H3 H4 /\ ∃ ks, WsL H4 vs ks /\ ks.length = i /\ ∀ (t : Nat) e, ks[t]? = some e -> ∃ d e', gs[t]? = some d /\ hs[t]? = some e' /\ ((e'.1 < d.1 /\ e = e') \/ (d.1 <= e'.1 /\ e = d))
def zh0 (H : Hp) (g : Addr) (T : Nat -> Nat -> Int) (b : Nat -> Int) (S : Nat -> Prop) (n k : Nat) (fs : List (Int × List Nat × Addr)) (i : Nat) (σ : L2.St) (H2 : Hp) : Prop := Same H H2 /\ ∃ r' ys gs v2, σ = [some (.ref g), some (.ref r'), v2] /\ H2 r' = some (.lst ys) /\ WsL H2 ys gs /\ Told T b S n (k + i) fs gs
section
variable {P : Program} {w : World} {K : Fg} {mg : Str -> Option Value} {base : Heap}
theorem qw (B : Bt mg) (ug : FnAt P w K mg base "lengthened" 4 ["grid", "walks"] (zc5 K)) (g0 : FnAt P w K mg base "lesser" 2 ["walk", "longer"] zat) (D : zc K mg "least_roads" tm ["grid", "walks"]) : FnAt P w K mg base "least_roads" 5 ["grid", "walks"] (zc6 K) := by
  refine FnAt.of D sc_least_roads (fun vs H Q E h => ?_) (fun f cdv A outer s H vs Q E hr h => ?_)
  . obtain ⟨g, r, rows, xs, fs, n, k, b, S, rfl, _⟩ := h
    rfl
  . obtain ⟨g, r, rows, xs, fs, n, k, b, Sd, rfl, G, hn, no, hr1, W, hlen, hdis, R, hk, q⟩ := h
    have n8 := G.n8;refine ⟨_, (@zk _ _ _ _ _ (yx PassesOwn.never rfl (js rfl B.range (za (@zj _ _ _ _) (za (@zp _ _ _ _ _ _ _ _ y8 (zq zt rfl B.len yi (za (pv 0) (@zb _))) (@zj _ _ _ _)) (@zb _)))) (zm (i := 2) sc_least_roads.nd rfl (Or.inl rfl)) (@zg _ _ _ (re (i := 1) ["walk", "longer"] ["grid", "walks", "size"] sc_least_roads.nd rfl rfl rfl (zfh rfl B.zip (za (pv 1) (za (zh ug (hr.mono (by decide)) rfl (za (pv 0) (za (pv 1) (@zb _)))) (@zb _)))) (fun _ => (qu rfl (yq (zm (i := 0) (show (["walk", "longer", "grid", "walks", "size"] : List Str).Nodup by decide +kernel) rfl (Or.inl rfl)) (yq (zm (i := 1) (show (["walk", "longer", "grid", "walks", "size"] : List Str).Nodup by decide +kernel) rfl (Or.inl rfl)) (@t6 _))))) (fun _ => (@zy _)) (fun _ => (zh g0 (hr.mono (by decide)) rfl (za (pv 0) (za (pv 1) (@zb _))))) rfl (by decide +kernel) rfl rfl rfl))) (@zg _ _ _ (@zl _ _ _ _ (pv 1)))), ?_⟩;rw [show start ["grid", "walks", "size"] [V.ref g, V.ref r] = [some (V.ref g), some (V.ref r), none] from rfl];simp only [zd, ze, ↓reduceIte];obtain ⟨as, h1, h2⟩ := G.ex;refine ⟨_, .inl h1.1, ?_⟩;rw [Za, h2];refine ⟨by omega, by omega, by omega, by omega, ?_⟩;rw [show ((n : Int) + 1 - 2).toNat = n - 1 by omega];refine xr (zh0 H g (zw rows) b Sd n k fs) ⟨Same.refl _, r, xs, fs, _, rfl, hr1, W, hlen, hdis, R, fun t ht => Yr _⟩ ?_ ?_
    . rintro i σ H2 hi ⟨S2, r', ys, gs, v2, rfl, hr2, W2, Td⟩
      have lg := Td.len;have ly := W2.len;have le := Td.le;simp only [zd, ze, ↓reduceIte];refine ⟨g, r', rows, ys, gs, n, rfl, G.mono S2, hr2, W2, lg, Td.rds.endOk lg (by omega), fun H3 r3 zs hs S3 hr3 W3 L => ?_⟩;have lh := L.len;have lz := W3.len;simp only [zd, ze, ↓reduceIte];refine ⟨⟨_, .of (S3 _ _ hr2)⟩, ⟨_, .of hr3⟩, fun d => ?_⟩;refine a7 (xs := ys) (zs := zs) (PvMix H3 gs hs) ⟨Same.refl _, [], WsL.nil, rfl, fun t e he => by simp at he⟩ ?_ ?_ ?_
      . rintro j vs H4 hj ⟨S4, ks, W4, lk, _⟩
        refine ⟨?_, (S3.trans S4).seq (.of hr2), S4.seq (.of hr3)⟩;rw [W4.len, lk];exact Zd hj (Zd (Nat.min_le_left _ _) (Zd (show ys.length <= 8 by omega) (by decide)))
      . rintro j x z vs H4 U hx hz hU ⟨S4, ks, W4, lk, hks⟩
        obtain ⟨d1, hd1⟩ := vp (xs := gs) (t := j) (by have := vq hx; omega);obtain ⟨e1, he1⟩ := vp (xs := hs) (t := j) (by have := vq hz; omega);obtain ⟨p, a1, a2, a3⟩ := W2.at' j d1 hd1;obtain ⟨p', b1, b2, b3⟩ := W3.at' j e1 he1;rw [hx] at a1;cases a1;rw [hz] at b1;cases b1;have SU : Same H4 (upd H4 U (.tup [V.ref p, V.ref p'])) := Same.upd (Same.refl _) hU;simp only [zd, ze, ↓reduceIte];refine ⟨_, .of zf, rfl, ?_⟩;simp only [zd, ze, ↓reduceIte];generalize upd H4 U (.tup [V.ref p, V.ref p']) = H5 at *;have S35 := S4.trans SU;have S25 := S3.trans S35;refine ⟨p, p', _, _, _, _, rfl, S25 _ _ a2, S35 _ _ b2, fun hlt => ?_, fun hle => ?_⟩
        . refine ⟨S35, ks ++ [e1], W4.snoc SU (S35 _ _ b2) (S35 _ _ b3), by simp [lk], fun t e he => ?_⟩
          rcases ue he with y | ⟨y, rfl⟩
          . exact hks t e y
          . rw [y, lk]
            exact ⟨d1, _, hd1, he1, .inl ⟨hlt, rfl⟩⟩
        . refine ⟨S35, ks ++ [d1], W4.snoc SU (S25 _ _ a2) (S25 _ _ a3), by simp [lk], fun t e he => ?_⟩
          rcases ue he with y | ⟨y, rfl⟩
          . exact hks t e y
          . rw [y, lk]
            exact ⟨_, e1, hd1, he1, .inr ⟨hle, rfl⟩⟩
      . rintro vs H4 ⟨S4, ks, W4, lk, hks⟩ l hl
        have lk' : ks.length = n := by rw [lk]; omega
        have S5 : Same H4 (upd H4 l (.lst vs)) := Same.upd (Same.refl _) hl;refine ⟨S2.trans (S3.trans (S4.trans S5)), l, vs, ks, _, rfl, zf, W4.mono S5, lk', ?_, ?_, fun t ht => ?_⟩
        . intro t u e d he hd ee
          obtain ⟨d1, e1, c1, c2, c3⟩ := hks t e he;obtain ⟨d2, e2, c4, c5, c6⟩ := hks u d hd
          rcases c3 with ⟨_, rfl⟩ | ⟨_, rfl⟩ <;> rcases c6 with ⟨_, rfl⟩ | ⟨_, rfl⟩
          . exact L.dis t u _ _ c2 c5 ee
          . obtain ⟨_, _, _, x3⟩ := W2.at' u _ c4
            rw [<- ee, L.new t _ c2] at x3;cases x3
          . obtain ⟨_, _, _, x3⟩ := W2.at' t _ c1
            rw [ee, L.new u _ c5] at x3;cases x3
          . exact Td.dis t u _ _ c1 c4 ee
        . refine Td.rds.step no fun t ht => ?_
          obtain ⟨e, he⟩ := vp (xs := ks) (t := t) (by omega);obtain ⟨d1, e1, c1, c2, c3⟩ := hks t e he;obtain ⟨i2, e2, x1, x2, x3, x4⟩ := L.min t e1 c2;refine ⟨i2, by have := vq x1; omega, fun u hu => ?_, ?_⟩
          . obtain ⟨d, hd⟩ := vp (xs := gs) (t := u) (by omega)
            rw [uf x1, uf hd];exact x2 u d hd
          . rw [uf x1, uf c1, uf he]
            rcases c3 with ⟨y, rfl⟩ | ⟨y, rfl⟩
            . left
              rw [x3] at y;exact ⟨y, by rw [x3, x4]⟩
            . right
              rw [x3] at y;exact ⟨y, rfl⟩
        . obtain ⟨e, he⟩ := vp (xs := ks) (t := t) (by omega)
          obtain ⟨d1, e1, c1, c2, c3⟩ := hks t e he;have z := le t ht;rw [uf c1] at z;rw [uf he];have z' : d1.1 <= (fOf fs t).1 := z
          show e.1 <= _
          rcases c3 with ⟨y, rfl⟩ | ⟨y, rfl⟩
          . omega
          . exact z'
    . rintro σ H2 ⟨S2, r', ys, gs, v2, rfl, hr2, W2, Td⟩
      simp only [zd, ze, ↓reduceIte];exact q H2 r' ys gs S2 hr2 W2 Td
end
structure ToldAt (H : Hp) (v : V) (gs : List (Int × List Nat × Addr)) : Prop where
  ex : ∃ tp pl rl, v = V.ref tp /\ H tp = some (.tup [.ref pl, .ref rl]) /\ H pl = some (.lst ((gs.map fun e => e.1).map V.int)) /\ H rl = some (.lst (gs.map fun e => V.ref e.2.2))
  road : ∀ e ∈ gs, H e.2.2 = some (.lst ((nI e.2.1).map V.int))
def za7 (a : Ad) (K : Fg) : Sp := fun vs H Q E => ∃ (g : Addr) (rows : List (List Int)) (n : Nat), vs = [.ref g] /\ Gd K H g rows n /\ 0 < n /\ (∀ H', Same H H' -> (∀ j, j <= n -> NoNeg (zw rows) n j) -> Q .non H') /\
  ∀ H' c, Same H H' -> RingA (zw rows) n c -> E (.ref a.NoPays) none H'
def PvTot (H3 : Hp) (gs : List (Int × List Nat × Addr)) (i : Nat) (ys : List V) (H4 : Hp) : Prop := H4 = H3 /\ ys = ((gs.take i).map fun e => e.1).map V.int
def PvWds (H3 : Hp) (gs : List (Int × List Nat × Addr)) (i : Nat) (ys : List V) (H4 : Hp) : Prop := H4 = H3 /\ ys = (gs.take i).map fun e => V.ref e.2.2
def PvOne (H : Hp) (b : Nat -> Int) (i : Nat) (ys : List V) (H4 : Hp) : Prop := Same H H4 /\ ∃ gs, WsL H4 ys gs /\ gs.length = i /\ Dis gs /\ ∀ t, t < i -> fOf gs t = (b t, [t])
section
variable {P : Program} {w : World} {K : Fg} {mg : Str -> Option Value} {base : Heap} {a : Ad}
theorem qx (B : Bt mg) (C : Ct K mg a) (j3 : FnAt P w K mg base "ring" 5 ["grid"] (zbi K)) (D : zc K mg "refuse_ring" u6 ["grid"]) : FnAtX P w K mg base "refuse_ring" 6 ["grid"] (za7 a K) := by
  refine FnAtX.of D cb (fun vs H Q E h => ?_) (fun f cdv A outer s H vs Q E hr h => ?_)
  . obtain ⟨g, rows, n, rfl, _⟩ := h
    rfl
  . obtain ⟨g, rows, n, rfl, G, hn, q0, q1⟩ := h
    refine ⟨_, (@zg _ _ _ (@y9 _ _ _ _ _ _ _ _ (@y6 _ _ _ _ _ _ _ _ cq (zh j3 (hr.mono (by decide)) rfl (za (pv 0) (@zb _))) (@qv _ _ _) (yu _)) (@zg _ _ _ (jc rfl C.q_NoPays.toErr rfl C.m_NoPays (rp rfl) (za (@uz _ _ _ _) (@zb _)))) (@yg _))), ?_⟩;rw [show start ["grid"] [V.ref g] = [some (V.ref g)] from rfl];simp only [zd, ze, ↓reduceIte];refine ⟨g, rows, n, rfl, G, hn, fun H1 S1 no => ?_, fun H1 l c S1 hl R => ?_⟩
    . simp only [zd, ze, ↓reduceIte]
      exact ite2 (fun z => absurd z (by simp)) fun _ => q0 H1 S1 no
    . simp only [zd, ze, ↓reduceIte]
      exact ite2 (fun _ => ⟨by decide, q1 H1 c S1 R⟩) fun z => (z (by simp)).elim
end
structure Great (rows : List (List Int)) (n : Nat) (gs : List (Int × List Nat × Addr)) : Prop where
  len : gs.length = n
  dis : Dis gs
  no : ∀ k, NoNeg (zw rows) n k
  rds : Rds (zw rows) (fun t => gcA rows t t) (fun _ => True) n (n - 1) (fOf gs)
  le : ∀ t, t < n -> (fOf gs t).1 <= gcA rows t t
def zdn (a : Ad) (K : Fg) : Sp := fun vs H Q E => ∃ (g : Addr) (rows : List (List Int)) (n : Nat), vs = [.ref g] /\ Gd K H g rows n /\ 0 < n /\ (∀ H' v gs, Same H H' -> ToldAt H' v gs -> Great rows n gs -> Q v H') /\
  ∀ H' c, Same H H' -> RingA (zw rows) n c -> E (.ref a.NoPays) none H'
section
variable {P : Program} {w : World} {K : Fg} {mg : Str -> Option Value} {base : Heap} {a : Ad}
theorem kx (B : Bt mg) (C : Ct K mg a) (qx : FnAtX P w K mg base "refuse_ring" 6 ["grid"] (za7 a K)) (qw : FnAt P w K mg base "least_roads" 5 ["grid", "walks"] (zc6 K)) (xj : FnAt P w K mg base "total_of" 1 ["walk"] ow) (sm : FnAt P w K mg base "words_of" 1 ["walk"] j4)
    (D : zc K mg "greatest" ou ["grid"]) : FnAtX P w K mg base "greatest" 7 ["grid"] (zdn a K) := by
  refine FnAtX.of D sc_greatest (fun vs H Q E h => ?_) (fun f cdv A outer s H vs Q E hr h => ?_)
  . obtain ⟨g, rows, n, rfl, _⟩ := h
    rfl
  . obtain ⟨g, rows, n, rfl, G, hn, q0, q1⟩ := h
    have n8 := G.n8;refine ⟨_, (@zk _ _ _ _ _ (vx (zau qx (hr.mono (by decide)) (d0 rfl) rfl (za (pv 0) (@zb _)))) (@zk _ _ _ _ _ (PS.nox (zz (i := 1) sc_greatest.nd rfl (Or.inl rfl) (zh qw (hr.mono (by decide)) rfl (za (pv 0) (za (z0 ["t"] ["grid", "walks"] rfl (yk rfl B.range (za (zq zt rfl B.len yi (za (pv 0) (@zb _))) (@zb _))) (fun _ => (zm (i := 0) (show (["t", "grid", "walks"] : List Str).Nodup by decide +kernel) rfl (Or.inl rfl))) (fun _ => (@zy _)) (fun _ => (@y7 _ _ _ _ _ (@za _ _ _ _ _ (@zx _ _ _ _ _ _ _ ye (@zx _ _ _ _ _ _ _ ye (pv 1) (pv 0) (fun _ _ => rfl)) (pv 0) (fun _ _ => rfl)) (@za _ _ _ _ _ (@wj _ _ _ _ (@za _ _ _ _ _ (pv 0) (@zb _) (yd nofun))) (@zb _) (yd nofun)) (yd nofun)))) rfl (by decide +kernel) rfl rfl) (@zb _)))))) (@zg _ _ _ (PS.nox (@zl _ _ _ _ (@y7 _ _ _ _ _ (za (z0 ["walk"] ["grid", "walks"] rfl (@z8 _ _ _ _ (pv 1)) (fun _ => (zm (i := 0) (show (["walk", "grid", "walks"] : List Str).Nodup by decide +kernel) rfl (Or.inl rfl))) (fun _ => (@zy _)) (fun _ => (zh xj (hr.mono (by decide)) rfl (za (pv 0) (@zb _)))) rfl (by decide +kernel) rfl rfl) (za (z0 ["walk"] ["grid", "walks"] rfl (@z8 _ _ _ _ (pv 1)) (fun _ => (zm (i := 0) (show (["walk", "grid", "walks"] : List Str).Nodup by decide +kernel) rfl (Or.inl rfl))) (fun _ => (@zy _)) (fun _ => (zh sm (hr.mono (by decide)) rfl (za (pv 0) (@zb _)))) rfl (by decide +kernel) rfl rfl) (@zb _))))))))), ?_⟩;rw [show start ["grid", "walks"] [V.ref g] = [some (V.ref g), none] from rfl];simp only [zd, ze, ↓reduceIte];refine ⟨g, rows, n, rfl, G, hn, fun H1 S1 no => ?_, fun H1 c S1 R => q1 H1 c S1 R⟩;have no' := NoNeg.all no;simp only [zd, ze, ↓reduceIte];obtain ⟨as, h1, h2⟩ := (G.mono S1).ex;refine ⟨_, .inl h1.1, ?_⟩;rw [Za, h2];refine ⟨by omega, by omega, fun d => ?_⟩;rw [Zw];refine xz (PvOne H1 fun t => gcA rows t t) ⟨Same.refl _, [], WsL.nil, rfl, Dis.nil, fun t ht => by omega⟩ ?_ ?_ ?_
    . rintro i ys H2 hi ⟨S2, gs, W2, lg, _⟩
      rw [W2.len, lg];exact Zd hi (Zd n8 (by decide))
    . rintro i ys H2 hi ⟨S2, gs, W2, lg, hd, hf⟩
      obtain ⟨ns', e1, l1⟩ := G.sq i hi;have G2 := GridL.mono S2 h1;obtain ⟨r, k1, k2⟩ := zaa G2 e1;simp only [zd, ze, ↓reduceIte];refine ⟨_, G2.1, _, k1, r, rfl, _, k2, _, vg (ox e1 (by omega)), by show 1 <= sizeLine; decide, fun l hl => ⟨by show 2 <= sizeLine; decide, fun p hp => ?_⟩⟩;have S3 : Same H2 (upd H2 l (.lst [V.int i])) := Same.upd (Same.refl _) hl;have hl3 : upd H2 l (.lst [V.int i]) l = some (.lst ((nI [i]).map V.int)) := zf;generalize upd H2 l (.lst [V.int i]) = H3 at *;have S4 : Same H3 (upd H3 p (.tup [V.int (gcA rows i i), V.ref l])) := Same.upd (Same.refl _) hp;have hp4 : upd H3 p (.tup [V.int (gcA rows i i), V.ref l]) p = some (.tup [V.int (gcA rows i i), V.ref l]) := zf;generalize upd H3 p (.tup [V.int (gcA rows i i), V.ref l]) = H4 at *;refine ⟨S2.trans (S3.trans S4), gs ++ [(gcA rows i i, [i], l)], W2.snoc (S3.trans S4) hp4 (S4 _ _ hl3), by simp [lg], hd.snoc W2 hl, fun t ht => ?_⟩
      by_cases e : t < i
      . rw [<- hf t e]
        unfold fOf;rw [Zk, Zg (by omega), <- Zk]
      . have : t = i := by omega
        subst this;rw [uf (e := (gcA rows t t, [t], l)) (by rw [Zf (by omega), lg]; simp)]
    . rintro ys H2 ⟨S2, gs, W2, lg, hd, hf⟩ l hl
      have S3 : Same H2 (upd H2 l (.lst ys)) := Same.upd (Same.refl _) hl;have hl3 : upd H2 l (.lst ys) l = some (.lst ys) := zf;generalize upd H2 l (.lst ys) = H3 at *;have S13 := S1.trans (S2.trans S3);refine ⟨g, l, rows, ys, gs, n, 0, _, _, rfl, G.mono S13, hn, no', hl3, W2.mono S3, lg, hd, Rds.one hf, by omega, fun H4 r4 zs hs S4 hr4 W4 Td => ?_⟩;have lz := W4.len;have lh := Td.len;simp only [zd, ze, ↓reduceIte];refine ⟨⟨_, .of hr4⟩, fun d2 => ?_⟩;refine yb (xs := zs) (PvTot H4 hs) ⟨rfl, rfl⟩ ?_ ?_ ?_
      . rintro i ys5 H5 hi ⟨rfl, rfl⟩
        refine ⟨?_, .of hr4⟩;rw [Za, Za, Zj];exact Zd (ZB _ _) (Zd (show hs.length <= 8 by omega) (by decide))
      . rintro i x ys5 H5 hx ⟨rfl, rfl⟩
        obtain ⟨e, he⟩ := vp (xs := hs) (t := i) (by have := vq hx; omega);obtain ⟨p, a1, a2, a3⟩ := W4.at' i e he;rw [hx] at a1;cases a1;simp only [zd, ze, ↓reduceIte];refine ⟨p, _, _, rfl, a2, rfl, ?_⟩;rw [Zq, he];simp
      . rintro ys5 H5 ⟨rfl, rfl⟩ pl hpl
        rw [lz, Zt];have S6 : Same H5 (upd H5 pl (.lst ((hs.map fun e => e.1).map V.int))) := Same.upd (Same.refl _) hpl;have hp6 : upd H5 pl (.lst ((hs.map fun e => e.1).map V.int)) pl = some (.lst ((hs.map fun e => e.1).map V.int)) := zf;generalize upd H5 pl (.lst ((hs.map fun e => e.1).map V.int)) = H6 at *;refine ⟨⟨_, S6.seq (.of hr4)⟩, fun d3 => ?_⟩;refine yb (xs := zs) (PvWds H6 hs) ⟨rfl, rfl⟩ ?_ ?_ ?_
        . rintro i ys5 H5 hi ⟨rfl, rfl⟩
          refine ⟨?_, S6.seq (.of hr4)⟩;rw [Za, Zj];exact Zd (ZB _ _) (Zd (show hs.length <= 8 by omega) (by decide))
        . rintro i x ys5 H5 hx ⟨rfl, rfl⟩
          obtain ⟨e, he⟩ := vp (xs := hs) (t := i) (by have := vq hx; omega);obtain ⟨p, a1, a2, a3⟩ := W4.at' i e he;rw [hx] at a1;cases a1;simp only [zd, ze, ↓reduceIte];refine ⟨p, _, _, rfl, S6 _ _ a2, rfl, ?_⟩;rw [Zq, he];simp
        . rintro ys7 H7 ⟨rfl, rfl⟩ rl hrl
          rw [lz, Zt];have S7 : Same H7 (upd H7 rl (.lst (hs.map fun e => V.ref e.2.2))) := Same.upd (Same.refl _) hrl;have hr7 : upd H7 rl (.lst (hs.map fun e => V.ref e.2.2)) rl = some (.lst (hs.map fun e => V.ref e.2.2)) := zf;generalize upd H7 rl (.lst (hs.map fun e => V.ref e.2.2)) = H8 at *;refine ⟨by show 2 <= sizeLine; decide, fun tp htp => ?_⟩;have S9 : Same H8 (upd H8 tp (.tup [V.ref pl, V.ref rl])) := Same.upd (Same.refl _) htp;have ht9 : upd H8 tp (.tup [V.ref pl, V.ref rl]) tp = some (.tup [V.ref pl, V.ref rl]) := zf;generalize upd H8 tp (.tup [V.ref pl, V.ref rl]) = H9 at *;have S79 := S7.trans S9;refine q0 H9 _ hs (S13.trans (S4.trans (S6.trans S79))) ⟨⟨tp, pl, rl, rfl, ht9, S79 _ _ hp6, S9 _ _ hr7⟩, fun e he => ?_⟩ ⟨lh, Td.dis, no', by have := Td.rds; rw [Nat.zero_add] at this; exact this, fun t ht => ?_⟩
          . obtain ⟨t, ht, rfl⟩ := Zy he
            obtain ⟨p, a1, a2, a3⟩ := W4.at' t hs[t] (by simp [ht]);exact (S6.trans S79) _ _ a3
          . have := Td.le t ht
            rw [hf t ht] at this;exact this
end
def Hon (rows : List (List Int)) (ps : List Int) (n : Nat) : Prop := ∀ t s : Nat, t < n -> s < n -> gcA rows t s - gcA rows t t <= ps.getD s 0 - ps.getD t 0
theorem d6 {gs : List (Int × List Nat × Addr)} {t : Nat} (h : t < gs.length) : (gs.map fun e => e.1).getD t 0 = (fOf gs t).1 := by
  obtain ⟨e, he⟩ := vp h;rw [uf he, Zk, Ze, he];rfl
theorem Great.hon {rows : List (List Int)} {n : Nat} {gs : List (Int × List Nat × Addr)} (g : Great rows n gs) : Hon rows (gs.map fun e => e.1) n := fun t s ht hs => by
  have lg := g.len;rw [d6 (by omega), d6 (by omega)];have := g.rds.honest g.no (by omega) hs ht;unfold zw at this;omega
def bn : Sp := fun vs H Q _ => ∃ (c : Addr) (r : List Str) (k : Nat) (z : Str), vs = [.ref c, .int k, .str z] /\ H c = some (.tup (r.map V.str)) /\ k <= r.length /\ r.length <= 8 /\ ∀ H' p, Same H H' -> H' p = some (.tup ((insP r k z).map V.str)) -> Q (.ref p) H'
section
variable {P : Program} {w : World} {K : Fg} {mg : Str -> Option Value} {base : Heap} {a : Ad}
theorem kq (B : Bt mg) (D : zc K mg "row_with" oj ["others", "k", "word"]) : FnAt P w K mg base "row_with" 1 ["others", "k", "word"] bn := by
  refine FnAt.of D zbw (fun vs H Q E h => ?_) (fun f cdv A outer s H vs Q E hr h => ?_)
  . obtain ⟨c, r, k, z, rfl, _⟩ := h
    rfl
  . obtain ⟨c, r, k, z, rfl, hc, hk, h8, q⟩ := h
    refine ⟨_, (@zg _ _ _ (@zl _ _ _ _ (@zp _ _ _ _ _ _ _ _ ri (@zp _ _ _ _ _ _ _ _ ri (@vn _ _ _ _ _ _ _ _ _ _ im (pv 0) (@ul _) (@uk _ _ _ (pv 1))) (@y7 _ _ _ _ _ (za (pv 2) (@zb _)))) (@vn _ _ _ _ _ _ _ _ _ _ im (pv 0) (@uk _ _ _ (pv 1)) (@ul _))))), ?_⟩;rw [show start ["others", "k", "word"] [V.ref c, V.int k, V.str z] = [some (V.ref c), some (V.int k), some (V.str z)] from rfl];simp only [zd, ze, ↓reduceIte];refine ⟨_, hc, fun H1 p1 S1 h1 => ⟨by decide, fun p2 hp2 => ?_⟩⟩;rw [iq (by rw [Za]; exact hk)] at h1;have S2 : Same H1 (upd H1 p2 (.tup [V.str z])) := Same.upd (Same.refl _) hp2;refine ⟨_, S2 _ _ h1, _, zf, ?_, fun H3 p3 S3 h3 => ?_⟩
    . rw [Zj, Za]
      exact Zd (show _ <= 9 by simp; omega) (by decide)
    refine ⟨_, (S1.trans (S2.trans S3)) _ _ hc, fun H4 p4 S4 h4 => ?_⟩;rw [mi (by rw [Za]; exact hk)] at h4;refine ⟨_, S4 _ _ h3, _, h4, ?_, fun H5 p5 S5 h5 => ?_⟩
    . simp only [Zo, Zj, ZP, Za, ZL, ZZ]
      exact Zd (show _ <= 17 by omega) (by decide)
    . refine q H5 p5 (S1.trans (S2.trans (S3.trans (S4.trans S5)))) ?_
      rw [h5, insP];simp
end
def putP (f : List Str -> Str) (outs o : List Str) (k : Nat) (us : List Str) : List Nat := us.map fun u => outs.idxOf (f (insP o k u))
def colP (d : HD) (ps : List Nat) : List (List Int) := d.worths.map fun r => ps.map fun p => r.getD p 0
def ix (f : List Str -> Str) (rs : List (List Str)) (outs o : List Str) (k : Nat) (d : HD) : Prop := k <= o.length /\ o.length <= 8 /\ ∀ u ∈ d.words, insP o k u ∈ rs /\ f (insP o k u) ∈ outs
def zc0 : Sp := fun vs H Q _ => ∃ (p o h t c : Addr) (hs : List Addr) (outs : List Str) (ds : List HD) (f : List Str -> Str) (rs : List (List Str)) (ot : List Str) (k : Nat) (d : HD), vs = [.ref p, .ref t, .int k, .ref c] /\ HHouse H p o h hs outs ds /\ GoodHouse outs ds /\ H t = some (.dT (x8 f rs)) /\ ds[k]? = some d /\ H c = some (.tup (ot.map V.str)) /\ ix f rs outs ot k d /\
  ∀ H' l, Same H H' -> H' l = some (.lst ((nI (putP f outs ot k d.words)).map V.int)) -> Q (.ref l) H'
def dw : Sp := fun vs H Q _ => ∃ (t l : Addr) (ns : List Int) (ps : List Nat), vs = [.ref t, .ref l] /\ H t = some (.tup (ns.map V.int)) /\ H l = some (.lst ((nI ps).map V.int)) /\ (∀ p ∈ ps, p < ns.length) /\ ps.length <= 8 /\ ∀ H' l', Same H H' -> H' l' = some (.lst ((ps.map fun p => ns.getD p 0).map V.int)) -> Q (.ref l') H'
def ay : Sp := fun vs H Q _ => ∃ (p o h t c : Addr) (hs : List Addr) (outs : List Str) (ds : List HD) (f : List Str -> Str) (rs : List (List Str)) (ot : List Str) (k : Nat) (d : HD), vs = [.ref p, .ref t, .int k, .ref c] /\ HHouse H p o h hs outs ds /\ GoodHouse outs ds /\ H t = some (.dT (x8 f rs)) /\ ds[k]? = some d /\ H c = some (.tup (ot.map V.str)) /\ ix f rs outs ot k d /\
  ∀ H' l ls, Same H H' -> H' l = some (.lst (ls.map V.ref)) -> IntsAt H' ls (colP d (putP f outs ot k d.words)) -> Q (.ref l) H'
def PvTu (H : Hp) (o : List Str) (k : Nat) (us : List Str) (i : Nat) (ys : List V) (H' : Hp) : Prop := Same H H' /\ ∃ as : List Addr, ys = as.map V.ref /\ TupsAt H' as ((us.take i).map (insP o k))
def PvPp (H : Hp) (f : List Str -> Str) (outs o : List Str) (k : Nat) (us : List Str) (i : Nat) (ys : List V) (H' : Hp) : Prop := H' = H /\ ys = (nI (putP f outs o k (us.take i))).map V.int
def PvWa (H : Hp) (ns : List Int) (ps : List Nat) (i : Nat) (ys : List V) (H' : Hp) : Prop := H' = H /\ ys = ((ps.take i).map fun p => ns.getD p 0).map V.int
def PvCl (H : Hp) (d : HD) (ps : List Nat) (i : Nat) (ys : List V) (H' : Hp) : Prop := Same H H' /\ ∃ ls : List Addr, ys = ls.map V.ref /\ IntsAt H' ls ((colP d ps).take i)
section
variable {P : Program} {w : World} {K : Fg} {mg : Str -> Option Value} {base : Heap} {a : Ad}
theorem rk (B : Bt mg) (kq : FnAt P w K mg base "row_with" 1 ["others", "k", "word"] bn) (yl : FnAt P w K mg base "words_of_hand" 1 ["hand"] (wf K 1)) (f_hands_of : FnAt P w K mg base "hands_of" 1 ["house"] (wf K 1)) (f_outcomes_of : FnAt P w K mg base "outcomes_of" 1 ["house"] (wf K 0)) (D : zc K mg "dealt_places" uv ["house", "table", "k", "others"]) : FnAt P w K mg base "dealt_places" 2 ["house", "table", "k", "others"] zc0 := by
  refine FnAt.of D sc_dealt_places (fun vs H Q E h => ?_) (fun f cdv A outer s H vs Q E hr h => ?_)
  . obtain ⟨p, o, h, t, c, hs, outs, ds, f, rs, ot, k, d, rfl, _⟩ := h
    rfl
  . obtain ⟨p, o, h, t, c, hs, outs, ds, f, rs, ot, k, d, rfl, hH, G, ht, hd, hc, ⟨hk, h8, hD⟩, q⟩ := h
    refine ⟨_, (@zk _ _ _ _ _ (re (i := 4) ["word"] ["house", "table", "k", "others", "rows"] sc_dealt_places.nd rfl rfl rfl (@j5 _ _ _ _ (zh yl (hr.mono (by decide)) rfl (za (@zx _ _ _ _ _ _ _ yf (zh f_hands_of (hr.mono (by decide)) rfl (za (pv 0) (@zb _))) (pv 2) (fun _ _ => rfl)) (@zb _)))) (fun _ => (zm (i := 0) (show (["word", "house", "table", "k", "others", "rows"] : List Str).Nodup by decide +kernel) rfl (Or.inl rfl))) (fun _ => (@zy _)) (fun _ => (zh kq (hr.mono (by decide)) rfl (za (pv 4) (za (pv 3) (za (pv 0) (@zb _)))))) rfl (by decide +kernel) rfl rfl rfl) (@zg _ _ _ (@zl _ _ _ _ (z0 ["row"] ["house", "table", "k", "others", "rows"] rfl (@z8 _ _ _ _ (pv 4)) (fun _ => (zm (i := 0) (show (["row", "house", "table", "k", "others", "rows"] : List Str).Nodup by decide +kernel) rfl (Or.inl rfl))) (fun _ => (@zy _)) (fun _ => (zfy PySem.F.plainAttrs_tuple PySem.F.slot_tuple_index PySem.F.type_tuple_index bp (zh f_outcomes_of (hr.mono (by decide)) rfl (za (pv 1) (@zb _))) (za (@zdf _ _ _ _ _ _ (hu10 hr) (pv 2) (pv 0) (fun _ _ => rfl)) (@zb _)))) rfl (by decide +kernel) rfl rfl)))), ?_⟩;rw [show start ["house", "table", "k", "others", "rows"] [V.ref p, V.ref t, V.int k, V.ref c] = [some (V.ref p), some (V.ref t), some (V.int k), some (V.ref c), none] from rfl];simp only [zd, ze, ↓reduceIte];have hkl : k < ds.length := (Zc.mp hd).1;obtain ⟨x, hx⟩ : ∃ x, hs[k]? = some x := ⟨hs[k]'(by rw [hH.hand.1]; exact hkl), by simp⟩;obtain ⟨wd, g, gs, hA⟩ := hH.hand.2 k x d hx hd;refine ⟨p, _, _, rfl, .of hH.tup, rfl, h, rfl, _, .of hH.hands, _, ya (v := V.ref x) (by rw [Ze, hx]; rfl), ?_⟩;refine ⟨x, _, _, rfl, .of hA.tup, rfl, wd, rfl, ⟨_, .of hA.words⟩, fun dd => ?_⟩;have w8 := (G.words1 d (Zi hd)).2;refine jh (xs := d.words.map V.str) (PvTu H ot k d.words) ⟨Same.refl _, [], rfl, rfl, fun i a r e => by simp at e⟩ ?_ ?_ ?_
    . rintro i ys H2 hi ⟨S2, as, rfl, T2⟩
      refine ⟨?_, .of (S2 _ _ hA.words)⟩;rw [Za, T2.len, Za, Zj];exact Zd (ZB _ _) (Zd w8 (by decide))
    . rintro i y ys H2 hy ⟨S2, as, rfl, T2⟩
      obtain ⟨u, hu, rfl⟩ := ym hy;simp only [zd, ze, ↓reduceIte];refine ⟨c, ot, k, u, rfl, S2 _ _ hc, hk, h8, fun H3 p3 S3 h3 => ?_⟩;refine ⟨S2.trans S3, as ++ [p3], by simp, ?_⟩;rw [Zq, hu, Zn];exact (T2.mono S3).append (TupsAt.one h3)
    . rintro ys H2 ⟨S2, as, rfl, T2⟩ l hl
      rw [Za, Zt] at T2;have S3 : Same H2 (upd H2 l (.lst (as.map V.ref))) := Same.upd (Same.refl _) hl;have h3 : upd H2 l (.lst (as.map V.ref)) l = some (.lst (as.map V.ref)) := zf;generalize upd H2 l (.lst (as.map V.ref)) = H3 at *;have T3 := T2.mono S3;have S13 := S2.trans S3;refine ⟨⟨_, .of h3⟩, fun dd => ?_⟩;refine yb (xs := as.map V.ref) (PvPp H3 f outs ot k d.words) ⟨rfl, rfl⟩ ?_ ?_ ?_
      . rintro i ys H4 hi ⟨rfl, rfl⟩
        refine ⟨?_, .of h3⟩;rw [Za, nI, Za, putP, Za, Zj];exact Zd (ZB _ _) (Zd w8 (by decide))
      . rintro i y ys H4 hy ⟨rfl, rfl⟩
        obtain ⟨b, hb, rfl⟩ := vk hy;have hi : i < d.words.length := by have := (Zc.mp hb).1; have := T3.len; rw [Za] at this; omega
        have hu : d.words[i]? = some d.words[i] := Zb hi;have hrow := T3.at' i b _ hb (by rw [Ze, hu]; rfl);obtain ⟨z1, z2⟩ := hD _ (Zl hi);generalize d.words[i] = u at *;have hval : valV (x8 f rs) (vf (insP ot k u)) = some (V.str (f (insP ot k u))) := dz z1
        have gt : DGet H4 t (.ref b) (some (V.str (f (insP ot k u)))) := by
          have := DGet.t (k := vf (insP ot k u)) (S13 _ _ ht) (b := b) (by rw [j1]; exact hrow)
          rwa [hval] at this
        simp only [zd, ze, ↓reduceIte];have hH4 := hH.mono S13;refine ⟨p, _, _, rfl, .of hH4.tup, rfl, ⟨o, rfl, _, .of hH4.outs⟩, _, gt, o, rfl, _, .of hH4.outs, _, jq z2, rfl, ?_⟩;rw [Zq, hu];simp [putP, nI]
      . rintro ys H4 ⟨rfl, rfl⟩ l2 hl2
        rw [Za, T3.len, Za, Zt];exact q _ l2 (S13.trans (Same.upd (Same.refl _) hl2)) zf
theorem m8 (D : zc K mg "worths_at" qj ["worths", "places"]) : FnAt P w K mg base "worths_at" 1 ["worths", "places"] dw := by
  refine FnAt.of D zas (fun vs H Q E h => ?_) (fun f cdv A outer s H vs Q E hr h => ?_)
  . obtain ⟨t, l, ns, ps, rfl, _⟩ := h
    rfl
  . obtain ⟨t, l, ns, ps, rfl, ht, hl, hp, h8, q⟩ := h
    refine ⟨_, (@zg _ _ _ (@zl _ _ _ _ (z0 ["place"] ["worths", "places"] rfl (@z8 _ _ _ _ (pv 1)) (fun _ => (zm (i := 0) (show (["place", "worths", "places"] : List Str).Nodup by decide +kernel) rfl (Or.inl rfl))) (fun _ => (@zy _)) (fun _ => (@zx _ _ _ _ _ _ _ yf (pv 1) (pv 0) (fun _ _ => rfl))) rfl (by decide +kernel) rfl rfl))), ?_⟩;rw [show start ["worths", "places"] [V.ref t, V.ref l] = [some (V.ref t), some (V.ref l)] from rfl];simp only [zd, ze, ↓reduceIte];refine ⟨⟨_, .of hl⟩, fun dd => ?_⟩;refine yb (xs := (nI ps).map V.int) (PvWa H ns ps) ⟨rfl, rfl⟩ ?_ ?_ ?_
    . rintro i ys H4 hi ⟨rfl, rfl⟩
      refine ⟨?_, .of hl⟩;rw [Za, Za, Zj];exact Zd (ZB _ _) (Zd h8 (by decide))
    . rintro i y ys H4 hy ⟨rfl, rfl⟩
      obtain ⟨z, hz, rfl⟩ := a8 hy;rw [nI, Ze] at hz
      obtain ⟨pl, hpl⟩ : ∃ y, ps[i]? = some y := by
        cases e : ps[i]? with
        | none => rw [e] at hz; cases hz
        | some y => exact ⟨y, rfl⟩
      rw [hpl] at hz;cases hz;have lt := hp pl (Zi hpl);have ex : ns[pl]? = some (ns.getD pl 0) := by rw [Zk, Zb lt]; rfl
      simp only [zd, ze, ↓reduceIte];refine ⟨_, .of ht, _, vg ex, rfl, ?_⟩;rw [Zq, hpl, Zn, Zn];rfl
    . rintro ys H4 ⟨rfl, rfl⟩ l2 hl2
      rw [Za, nI, Za, Zt];exact q _ l2 (Same.upd (Same.refl _) hl2) zf
theorem ic (B : Bt mg) (rk : FnAt P w K mg base "dealt_places" 2 ["house", "table", "k", "others"] zc0) (m8 : FnAt P w K mg base "worths_at" 1 ["worths", "places"] dw) (xk : FnAt P w K mg base "worths_of_hand" 1 ["hand"] (wf K 2)) (f_hands_of : FnAt P w K mg base "hands_of" 1 ["house"] (wf K 1)) (D : zc K mg "grid_of" mn ["house", "table", "k", "others"]) : FnAt P w K mg base "grid_of" 3 ["house", "table", "k", "others"] ay := by
  refine FnAt.of D sc_grid_of (fun vs H Q E h => ?_) (fun f cdv A outer s H vs Q E hr h => ?_)
  . obtain ⟨p, o, h, t, c, hs, outs, ds, f, rs, ot, k, d, rfl, _⟩ := h
    rfl
  . obtain ⟨p, o, h, t, c, hs, outs, ds, f, rs, ot, k, d, rfl, hH, G, ht, hd, hc, hD, q⟩ := h
    refine ⟨_, (@zk _ _ _ _ _ (zz (i := 4) sc_grid_of.nd rfl (Or.inr rfl) (zh rk (hr.mono (by decide)) rfl (za (pv 0) (za (pv 1) (za (pv 2) (za (pv 3) (@zb _))))))) (@zg _ _ _ (@zl _ _ _ _ (z0 ["worths"] ["house", "table", "k", "others", "places"] rfl (@j5 _ _ _ _ (zh xk (hr.mono (by decide)) rfl (za (@zx _ _ _ _ _ _ _ yf (zh f_hands_of (hr.mono (by decide)) rfl (za (pv 0) (@zb _))) (pv 2) (fun _ _ => rfl)) (@zb _)))) (fun _ => (zm (i := 0) (show (["worths", "house", "table", "k", "others", "places"] : List Str).Nodup by decide +kernel) rfl (Or.inl rfl))) (fun _ => (@zy _)) (fun _ => (zh m8 (hr.mono (by decide)) rfl (za (pv 0) (za (pv 5) (@zb _))))) rfl (by decide +kernel) rfl rfl)))), ?_⟩;rw [show start ["house", "table", "k", "others", "places"] [V.ref p, V.ref t, V.int k, V.ref c] = [some (V.ref p), some (V.ref t), some (V.int k), some (V.ref c), none] from rfl];simp only [zd, ze, ↓reduceIte];refine ⟨p, o, h, t, c, hs, outs, ds, f, rs, ot, k, d, rfl, hH, G, ht, hd, hc, hD, fun H1 l S1 hl => ?_⟩;have hkl : k < ds.length := (Zc.mp hd).1;obtain ⟨x, hx⟩ : ∃ x, hs[k]? = some x := ⟨hs[k]'(by rw [hH.hand.1]; exact hkl), by simp⟩;have hH1 := hH.mono S1;obtain ⟨wd, g, gs, hA⟩ := hH1.hand.2 k x d hx hd;have hmd := Zi hd;have w8 := (G.words1 d hmd).2;have ro := G.rows d hmd;simp only [zd, ze, ↓reduceIte];refine ⟨p, _, _, rfl, .of hH1.tup, rfl, h, rfl, _, .of hH1.hands, _, ya (v := V.ref x) (by rw [Ze, hx]; rfl), ?_⟩;refine ⟨x, _, _, rfl, .of hA.tup, rfl, g, rfl, ⟨_, .of hA.grid⟩, fun dd => ?_⟩
    have hps : ∀ p ∈ putP f outs ot k d.words, p < outs.length := fun p hp => by
      obtain ⟨u, hu, rfl⟩ := Zp.mp hp;exact Zz.mpr (hD.2.2 u hu).2
    have lps : (putP f outs ot k d.words).length = d.words.length := by rw [putP, Za]
    generalize putP f outs ot k d.words = ps at *;refine jh (xs := gs.map V.ref) (PvCl H1 d ps) ⟨Same.refl _, [], rfl, rfl, fun i a r e => by simp at e⟩ ?_ ?_ ?_
    . rintro i ys H2 hi ⟨S2, as, rfl, T2⟩
      refine ⟨?_, .of (S2 _ _ hA.grid)⟩;rw [Za, T2.len, Zj, colP, Za];exact Zd (ZB _ _) (Zd (show _ <= 8 by omega) (by decide))
    . rintro i y ys H2 hy ⟨S2, as, rfl, T2⟩
      obtain ⟨b, hb, rfl⟩ := vk hy;have hi : i < d.worths.length := by have := (Zc.mp hb).1; have := hA.len; omega
      have er : d.worths[i]? = some d.worths[i] := Zb hi;have hrow := S2 _ _ (hA.row i b _ hb er);have hcl := G.cols d hmd _ (Zl hi);simp only [zd, ze, ↓reduceIte];refine ⟨b, l, d.worths[i], ps, rfl, hrow, S2 _ _ hl, fun p hp => by rw [hcl]; exact hps p hp, by omega, fun H3 l3 S3 h3 => ?_⟩;refine ⟨S2.trans S3, as ++ [l3], by simp, ?_⟩;rw [Zq, colP, Ze, er];exact (T2.mono S3).snoc h3
    . rintro ys H2 ⟨S2, as, rfl, T2⟩ l2 hl2
      rw [Za, hA.len, ZG (by rw [colP, Za]; exact Zm _)] at T2;have S3 : Same H2 (upd H2 l2 (.lst (as.map V.ref))) := Same.upd (Same.refl _) hl2;exact q _ l2 as (S1.trans (S2.trans S3)) zf (T2.mono S3)
end
def dueK (ds : List HD) (m : Nat) : List (Nat × List Str) := (List.range m).flatMap fun k => (z7 ((ds.eraseIdx k).map HD.words)).map fun o => (k, o)
theorem j9 (ds : List HD) (m : Nat) : dueK ds (m + 1) = dueK ds m ++ (z7 ((ds.eraseIdx m).map HD.words)).map fun o => (m, o) := by
  rw [dueK, ZU, List.flatMap_append];simp [dueK]
def xu (f : List Str -> Str) (outs : List Str) (ds : List HD) (x : Nat × List Str) : List (List Int) := match ds[x.1]? with
  | some d => colP d (putP f outs x.2 x.1 d.words)
  | none => []
def vt (ds : List HD) (x : Nat × List Str) : Nat := match ds[x.1]? with
  | some d => d.words.length
  | none => 0
theorem o5 {f : List Str -> Str} {outs : List Str} {ds : List HD} {k : Nat} {o : List Str} {d : HD} (h : ds[k]? = some d) : xu f outs ds (k, o) = colP d (putP f outs o k d.words) := by rw [xu]; simp only [h]
theorem ny {ds : List HD} {k : Nat} {o : List Str} {d : HD} (h : ds[k]? = some d) : vt ds (k, o) = d.words.length := by rw [vt]; simp only [h]
def ff (f : List Str -> Str) (rs : List (List Str)) (outs : List Str) (ds : List HD) : Prop := ∀ (k : Nat) (d : HD) (o : List Str), ds[k]? = some d -> o ∈ z7 ((ds.eraseIdx k).map HD.words) -> ix f rs outs o k d
structure GridsAt (H : Hp) (as : List Addr) (xs : List (Nat × List Str)) (F : Nat × List Str -> List (List Int)) : Prop where
  len : as.length = xs.length
  at' : ∀ (i : Nat) (a : Addr) (x : Nat × List Str), as[i]? = some a -> xs[i]? = some x -> ∃ c g ls, H a = some (.tup [.int x.1, .ref c, .ref g]) /\ H c = some (.tup (x.2.map V.str)) /\ H g = some (.lst (ls.map V.ref)) /\ IntsAt H ls (F x)
theorem GridsAt.mono {H H' : Hp} {as : List Addr} {xs : List (Nat × List Str)} {F : Nat × List Str -> List (List Int)} (S : Same H H') (h : GridsAt H as xs F) : GridsAt H' as xs F := ⟨h.len, fun i a x e1 e2 => by
  obtain ⟨c, g, ls, h1, h2, h3, h4⟩ := h.at' i a x e1 e2
  exact ⟨c, g, ls, S _ _ h1, S _ _ h2, S _ _ h3, h4.mono S⟩⟩
theorem au {α β : Type} {as bs : List α} {xs ys : List β} {i : Nat} {a : α} {x : β} (hl : as.length = xs.length) (e1 : (as ++ bs)[i]? = some a) (e2 : (xs ++ ys)[i]? = some x) : (as[i]? = some a /\ xs[i]? = some x) \/ (bs[i - as.length]? = some a /\ ys[i - as.length]? = some x) := by
  by_cases hi : i < as.length
  . rw [Zg hi] at e1
    rw [Zg (by omega)] at e2;exact .inl ⟨e1, e2⟩
  . rw [Zf (by omega)] at e1
    rw [Zf (by omega)] at e2;rw [<- hl] at e2;exact .inr ⟨e1, e2⟩
theorem GridsAt.append {H : Hp} {as bs : List Addr} {xs ys : List (Nat × List Str)} {F : Nat × List Str -> List (List Int)} (h : GridsAt H as xs F) (h' : GridsAt H bs ys F) : GridsAt H (as ++ bs) (xs ++ ys) F := ⟨by simp [h.len, h'.len], fun i a x e1 e2 => by
  rcases au h.len e1 e2 with ⟨z1, z2⟩ | ⟨z1, z2⟩
  . exact h.at' i a x z1 z2
  . exact h'.at' _ a x z1 z2⟩
theorem GridsAt.one {H : Hp} {a c g : Addr} {ls : List Addr} {x : Nat × List Str} {F : Nat × List Str -> List (List Int)} (h1 : H a = some (.tup [.int x.1, .ref c, .ref g])) (h2 : H c = some (.tup (x.2.map V.str))) (h3 : H g = some (.lst (ls.map V.ref))) (h4 : IntsAt H ls (F x)) : GridsAt H [a] [x] F := ⟨rfl, fun i b y e1 e2 => by
  have : i = 0 := by have := (Zc.mp e1).1; simp at this; omega
  subst this;cases e1;cases e2
  exact ⟨c, g, ls, h1, h2, h3, h4⟩⟩
def bb : Sp := fun vs H Q _ => ∃ (p o h t : Addr) (hs : List Addr) (outs : List Str) (ds : List HD) (f : List Str -> Str) (rs : List (List Str)), vs = [.ref p, .ref t] /\ HHouse H p o h hs outs ds /\ GoodHouse outs ds /\ H t = some (.dT (x8 f rs)) /\ ff f rs outs ds /\
  ∀ H' l as, Same H H' -> H l = none -> H' l = some (.lst (as.map V.ref)) -> GridsAt H' as (dueK ds ds.length) (xu f outs ds) -> Q (.ref l) H'
def ie (rows : List (List Int)) (n : Nat) : Prop := ∀ j, NoNeg (zw rows) n j
structure PaperAt (H : Hp) (a : Addr) (k : Nat) (c : Addr) (gs : List (Int × List Nat × Addr)) : Prop where
  ex : ∃ pl rl, H a = some (.tup [.int k, .ref c, .ref pl, .ref rl]) /\ H pl = some (.lst ((gs.map fun e => e.1).map V.int)) /\ H rl = some (.lst (gs.map fun e => V.ref e.2.2))
  road : ∀ e ∈ gs, H e.2.2 = some (.lst ((nI e.2.1).map V.int))
theorem PaperAt.mono {H H' : Hp} {a : Addr} {k : Nat} {c : Addr} {gs : List (Int × List Nat × Addr)} (S : Same H H') (h : PaperAt H a k c gs) : PaperAt H' a k c gs := by
  obtain ⟨pl, rl, h1, h2, h3⟩ := h.ex;exact ⟨⟨pl, rl, S _ _ h1, S _ _ h2, S _ _ h3⟩, fun e he => S _ _ (h.road e he)⟩
def zc2 (K : Fg) : Sp := fun vs H Q _ => ∃ (k : Nat) (c g : Addr) (rows : List (List Int)) (n : Nat), vs = [.int k, .ref c, .ref g] /\ Gd K H g rows n /\ 0 < n /\ ie rows n /\ ∀ H' a gs, Same H H' -> PaperAt H' a k c gs -> Great rows n gs -> Q (.ref a) H'
structure PapersAt (H : Hp) (as : List Addr) (xs : List (Nat × List Str)) (F : Nat × List Str -> List (List Int)) (W : Nat × List Str -> Nat) : Prop where
  len : as.length = xs.length
  at' : ∀ (i : Nat) (a : Addr) (x : Nat × List Str), as[i]? = some a -> xs[i]? = some x -> ∃ c gs, PaperAt H a x.1 c gs /\ H c = some (.tup (x.2.map V.str)) /\ Great (F x) (W x) gs
theorem PapersAt.mono {H H' : Hp} {as : List Addr} {xs : List (Nat × List Str)} {F : Nat × List Str -> List (List Int)} {W : Nat × List Str -> Nat} (S : Same H H') (h : PapersAt H as xs F W) : PapersAt H' as xs F W := ⟨h.len, fun i a x e1 e2 => by
  obtain ⟨c, gs, h1, h2, h3⟩ := h.at' i a x e1 e2
  exact ⟨c, gs, h1.mono S, S _ _ h2, h3⟩⟩
theorem PapersAt.snoc {H : Hp} {as : List Addr} {xs : List (Nat × List Str)} {F : Nat × List Str -> List (List Int)} {W : Nat × List Str -> Nat} {a c : Addr} {x : Nat × List Str} {gs : List (Int × List Nat × Addr)} (h : PapersAt H as xs F W) (h1 : PaperAt H a x.1 c gs) (h2 : H c = some (.tup (x.2.map V.str))) (h3 : Great (F x) (W x) gs) : PapersAt H (as ++ [a]) (xs ++ [x]) F W := ⟨by simp [h.len], fun i b y e1 e2 => by
  rcases au h.len e1 e2 with ⟨z1, z2⟩ | ⟨z1, z2⟩
  . exact h.at' i b y z1 z2
  . have : i - as.length = 0 := by have := (Zc.mp z1).1; simp at this; omega
    rw [this] at z1 z2;cases z1;cases z2
    exact ⟨c, gs, h1, h2, h3⟩⟩
def bx (K : Fg) : Sp := fun vs H Q _ => ∃ (p o h t : Addr) (hs : List Addr) (outs : List Str) (ds : List HD) (f : List Str -> Str) (rs : List (List Str)), vs = [.ref p, .ref t] /\ HHouse H p o h hs outs ds /\ GoodHouse outs ds /\ H t = some (.dT (x8 f rs)) /\ ff f rs outs ds /\
  (∀ H' tp l as, Same H H' -> H' tp = some (.tup [.str "pays", .ref l]) -> H' l = some (.lst (as.map V.ref)) -> PapersAt H' as (dueK ds ds.length) (xu f outs ds) (vt ds) -> Q (.ref tp) H') /\
  ∀ (H' : Hp) (tp c l : Addr) (i : Nat) (x : Nat × List Str) (cy : List Nat), Same H H' -> (dueK ds ds.length)[i]? = some x -> (∀ (j : Nat) (y : Nat × List Str), j < i -> (dueK ds ds.length)[j]? = some y -> ie (xu f outs ds y) (vt ds y)) -> H' tp = some (.tup [.str "ring", .int x.1, .ref c, .ref l]) -> H' c = some (.tup (x.2.map V.str)) -> H' l = some (.lst ((nI cy).map V.int)) -> RingA (zw (xu f outs ds x)) (vt ds x) cy -> Q (.ref tp) H'
theorem o6 {outs : List Str} {ds : List HD} (G : GoodHouse outs ds) : ∀ m, m <= ds.length -> (dueK ds m).length <= m * 4096
  | 0, _ => by simp [dueK]
  | m + 1, h => by
    have ih := o6 G m (by omega);have h4 := G.hands.2
    have few := rj (wss := (ds.eraseIdx m).map HD.words) (by rw [Za, ZS (by omega)]; omega) (fun ws hws => by
      obtain ⟨d, hd, rfl⟩ := Zp.mp hws
      exact (G.words1 d (Yb hd)).2) _ (Zm _)
    rw [Zt] at few;rw [j9, Zo, Za];omega
theorem jk {ds : List HD} {m : Nat} {x : Nat × List Str} (h : x ∈ dueK ds m) : x.1 < m /\ x.2 ∈ z7 ((ds.eraseIdx x.1).map HD.words) := by
  rw [dueK, List.mem_flatMap] at h;obtain ⟨k, hk, h⟩ := h;obtain ⟨o, ho, rfl⟩ := Zp.mp h;exact ⟨ZT.mp hk, ho⟩
theorem GridsAt.past {H : Hp} {l : Addr} {o : HO} {as0 cs : List Addr} {xs : List (Nat × List Str)} {F : Nat × List Str -> List (List Int)} (hl : H l = some (.lst (as0.map V.ref))) (h0 : ∀ a ∈ as0, ∃ us, H a = some (.tup us)) (ne : ∀ x ∈ xs, F x ≠ [] /\ ∀ r ∈ F x, r ≠ []) (h : GridsAt H cs xs F) : GridsAt (upd H l o) cs xs F := ⟨h.len, fun i a x e1 e2 => by
  obtain ⟨c, g, ls, h1, h2, h3, h4⟩ := h.at' i a x e1 e2;obtain ⟨n1, n2⟩ := ne x (Zi e2);have k1 : a ≠ l := fun e => by rw [e, hl] at h1; cases h1
  have k2 : c ≠ l := fun e => by rw [e, hl] at h2; cases h2
  have k4 : ∀ r ∈ ls, r ≠ l := fun r hr e => by
    obtain ⟨j, hj, rfl⟩ := Zy hr;have hj2 : j < (F x).length := by rw [<- h4.len]; exact hj
    have := h4.at' j _ _ (Zb hj) (Zb hj2);rw [e, hl] at this;have nz := n2 _ (Zl hj2);generalize (F x)[j] = p at *
    cases p with
    | nil => exact nz rfl
    | cons z p => cases as0 <;> simp at this
  have k3 : g ≠ l := fun e => by
    rw [e, hl] at h3;have z : as0.map V.ref = ls.map V.ref := by simpa using h3
    have hl0 : 0 < ls.length := by
      rw [h4.len]
      cases e : F x with
      | nil => exact absurd e n1
      | cons _ _ => simp
    have hl1 : 0 < as0.length := by have := congrArg List.length z; simp at this; omega
    have hj2 : 0 < (F x).length := by rw [<- h4.len]; exact hl0
    have r1 := h4.at' 0 _ _ (Zb hl0) (Zb hj2)
    have ee : as0[0] = ls[0] := by
      have := congrArg (fun q => q[0]?) z
      simpa [Ze, Zb hl0, Zb hl1] using this
    obtain ⟨us, hu⟩ := h0 _ (Zl hl1);rw [ee, r1] at hu;cases hu
  refine ⟨c, g, ls, by rw [zr k1]; exact h1, by rw [zr k2]; exact h2, by rw [zr k3]; exact h3, h4.len, fun j r p e3 e4 => ?_⟩;rw [zr (k4 r (Zi e3))]
  exact h4.at' j r p e3 e4⟩
theorem GridsAt.tup {H : Hp} {as : List Addr} {xs : List (Nat × List Str)} {F : Nat × List Str -> List (List Int)} (h : GridsAt H as xs F) : ∀ a ∈ as, ∃ us, H a = some (.tup us) := fun a ha => by
  obtain ⟨j, hj, rfl⟩ := Zy ha;have hj2 : j < xs.length := by rw [<- h.len]; exact hj
  obtain ⟨c, g, ls, h1, _⟩ := h.at' j _ _ (Zb hj) (Zb hj2);exact ⟨_, h1⟩
theorem zbf {f : List Str -> Str} {outs : List Str} {ds : List HD} (G : GoodHouse outs ds) {x : Nat × List Str} (h : x.1 < ds.length) : xu f outs ds x ≠ [] /\ ∀ r ∈ xu f outs ds x, r ≠ [] := by
  obtain ⟨k, o⟩ := x;have hd : ds[k]? = some ds[k] := Zb h;have hm := Zl h;have w1 := (G.words1 _ hm).1;have ro := G.rows _ hm;rw [o5 hd];generalize ds[k] = d at *;refine ⟨fun e => ?_, fun r hr e => ?_⟩
  . have := congrArg List.length e
    rw [colP, Za] at this;simp at this;rw [this] at ro;simp at ro;omega
  . obtain ⟨r', _, rfl⟩ := Zp.mp hr
    have := congrArg List.length e;rw [Za, putP, Za] at this;simp at this;rw [this] at w1;simp at w1
def PvGs (p t : Addr) (ds : List HD) (F : Nat × List Str -> List (List Int)) (H : Hp) (i : Nat) (σ : L2.St) (H' : Hp) : Prop := ∃ (l : Addr) (as : List Addr) (v : Option V), Same H H' /\ H l = none /\ H' l = some (.lst (as.map V.ref)) /\ GridsAt H' as (dueK ds i) F /\ σ = [some (.ref p), some (.ref t), some (.ref l), v]
def PvG3 (k : Nat) (os : List (List Str)) (F : Nat × List Str -> List (List Int)) (H : Hp) (i : Nat) (ys : List V) (H' : Hp) : Prop := Same H H' /\ ∃ as : List Addr, ys = as.map V.ref /\ GridsAt H' as ((os.take i).map fun o => (k, o)) F
section
variable {P : Program} {w : World} {K : Fg} {mg : Str -> Option Value} {base : Heap} {a : Ad}
theorem ky (B : Bt mg) (f_hands_of : FnAt P w K mg base "hands_of" 1 ["house"] (wf K 1)) (ic : FnAt P w K mg base "grid_of" 3 ["house", "table", "k", "others"] ay) (lc : FnAt P w K mg base "others_of" 3 ["house", "k"] (d5 K)) (D : zc K mg "grids_of" on ["house", "table"]) : FnAt P w K mg base "grids_of" 4 ["house", "table"] bb := by
  refine FnAt.of D sc_grids_of (fun vs H Q E h => ?_) (fun f cdv A outer s H vs Q E hr h => ?_)
  . obtain ⟨p, o, h, t, hs, outs, ds, f, rs, rfl, _⟩ := h
    rfl
  . obtain ⟨p, o, h, t, hs, outs, ds, f, rs, rfl, hH, G, ht, hD, q⟩ := h
    refine ⟨_, (@zk _ _ _ _ _ (zz (i := 2) sc_grids_of.nd rfl (Or.inl rfl) (@wj _ _ _ _ (@zb _))) (@zk _ _ _ _ _ (yx PassesOwn.never rfl (yk rfl B.range (za (zq zt rfl B.len yi (za (zh f_hands_of (hr.mono (by decide)) rfl (za (pv 0) (@zb _))) (@zb _))) (@zb _))) (zm (i := 3) sc_grids_of.nd rfl (Or.inr rfl)) (@zg _ _ _ (vx (qk PySem.F.plainAttrs_list PySem.F.slot_list_extend PySem.F.type_list_extend bj (pv 2) (za (z0 ["others"] ["house", "table", "grids", "k"] rfl (@z8 _ _ _ _ (zh lc (hr.mono (by decide)) rfl (za (pv 0) (za (pv 3) (@zb _))))) (fun _ => (zm (i := 0) (show (["others", "house", "table", "grids", "k"] : List Str).Nodup by decide +kernel) rfl (Or.inl rfl))) (fun _ => (@zy _)) (fun _ => (@y7 _ _ _ _ _ (za (pv 4) (za (pv 0) (za (zh ic (hr.mono (by decide)) rfl (za (pv 1) (za (pv 2) (za (pv 4) (za (pv 0) (@zb _)))))) (@zb _)))))) rfl (by decide +kernel) rfl rfl) (@zb _)))))) (@zg _ _ _ (@zl _ _ _ _ (pv 2))))), ?_⟩;rw [show start ["house", "table", "grids", "k"] [V.ref p, V.ref t] = [some (V.ref p), some (V.ref t), none, none] from rfl];simp only [zd, ze, ↓reduceIte];refine ⟨by decide, fun l0 hl0 => ?_⟩;have S1 : Same H (upd H l0 (.lst [])) := Same.upd (Same.refl _) hl0;have h1 : upd H l0 (.lst []) l0 = some (.lst (([] : List Addr).map V.ref)) := zf;generalize upd H l0 (.lst []) = H1 at *;have hH1 := hH.mono S1;have h4 := G.hands.2;refine ⟨p, _, _, rfl, .of hH1.tup, rfl, h, rfl, _, .inr (.of hH1.hands), ?_⟩;rw [Za, hH1.hand.1];refine ⟨by omega, by omega, ?_⟩;rw [Zw];refine xr (PvGs p t ds (xu f outs ds) H) ⟨l0, [], _, S1, hl0, h1, ⟨rfl, fun i a x e => by simp at e⟩, rfl⟩ ?_ ?_
    . rintro k σ H2 hk ⟨l, as, v, S2, hn, h2, G2, rfl⟩
      have hd : ds[k]? = some ds[k] := Zb hk;have hH2 := hH.mono S2;simp only [zd, ze, ↓reduceIte];refine ⟨.inl ⟨rfl, _, .of h2⟩, ?_⟩;refine ⟨p, o, h, hs, outs, ds, k, rfl, hH2.k, hk, h4, fun d hd => (G.words1 d hd).2, fun H3 rl bs S3 _ R3 => ⟨rl, rfl, ⟨_, .of R3.lst⟩, fun dd => ?_⟩⟩
      have few := rj (wss := (ds.eraseIdx k).map HD.words) (by rw [Za, ZS hk]; omega) (fun ws hws => by
        obtain ⟨d, hd, rfl⟩ := Zp.mp hws
        exact (G.words1 d (Yb hd)).2) _ (Zm _)
      rw [Zt] at few;have hin : ∀ r ∈ z7 ((ds.eraseIdx k).map HD.words), ix f rs outs r k ds[k] := fun r hr => hD k _ r hd hr
      have hsu := j9 ds k;have fk := o6 G k (by omega);generalize z7 ((ds.eraseIdx k).map HD.words) = os at *;refine yb (xs := bs.map V.ref) (PvG3 k os (xu f outs ds) H3) ⟨Same.refl _, [], rfl, rfl, fun i a x e => by simp at e⟩ ?_ ?_ ?_
      . rintro i ys H4 hi ⟨S4, cs, rfl, T4⟩
        refine ⟨?_, .of (S4 _ _ R3.lst)⟩;rw [Za, T4.len, Za, Zj];exact Zd (ZB _ _) (Zd few (by decide))
      . rintro i y ys H4 hy ⟨S4, cs, rfl, T4⟩
        obtain ⟨c, hc, rfl⟩ := vk hy;have hi : i < os.length := by have := (Zc.mp hc).1; have := R3.tups.len; omega
        have eo : os[i]? = some os[i] := Zb hi;have hc4 := S4 _ _ (R3.tups.at' i c _ hc eo);have hdl := hin _ (Zl hi);have S24 := S2.trans (S3.trans S4);simp only [zd, ze, ↓reduceIte];refine ⟨p, o, h, t, c, hs, outs, ds, f, rs, os[i], k, ds[k], rfl, hH.mono S24, G, S24 _ _ ht, hd, hc4, hdl, fun H5 g ls S5 hg I5 => ⟨by decide, fun tp htp => ?_⟩⟩;have S6 : Same H5 (upd H5 tp (.tup [V.int k, V.ref c, V.ref g])) := Same.upd (Same.refl _) htp;refine ⟨S4.trans (S5.trans S6), cs ++ [tp], by simp, ?_⟩;rw [Zq, eo, Zn];exact (T4.mono (S5.trans S6)).append (GridsAt.one (x := (k, os[i])) zf ((S5.trans S6) _ _ hc4) (S6 _ _ hg) (by rw [o5 hd]; exact I5.mono S6))
      . rintro ys H4 ⟨S4, cs, rfl, T4⟩ l2 hl2
        rw [Za, R3.tups.len, Zt] at T4;have S5 : Same H4 (upd H4 l2 (.lst (cs.map V.ref))) := Same.upd (Same.refl _) hl2;have h5 : upd H4 l2 (.lst (cs.map V.ref)) l2 = some (.lst (cs.map V.ref)) := zf;generalize upd H4 l2 (.lst (cs.map V.ref)) = H5 at *;have S25 := S3.trans (S4.trans S5);have hl5 := S25 _ _ h2;have GG := (G2.mono S25).append (T4.mono S5);rw [<- hsu] at GG;refine ⟨_, hl5, _, h5, ?_, l, as ++ cs, _, Same.upd (S2.trans S25) hn, hn, by rw [zf, Zn], ?_, rfl⟩
        . rw [Za, Za, G2.len, T4.len, Za]
          exact Zd (show _ <= 4 * 4096 + 4096 by omega) (by decide)
        . exact GG.past hl5 (G2.mono S25).tup fun x hx => zbf G (by have := (jk hx).1; omega)
    . rintro σ H2 ⟨l, as, v, S2, hn, h2, G2, rfl⟩
      simp only [zd, ze, ↓reduceIte];exact q H2 l as S2 hn h2 G2
end
theorem zg5 {rows : List (List Int)} {n : Nat} {c : List Nat} (no : ie rows n) (R : RingA (zw rows) n c) : False := by
  have h1 := NoNeg.rnd (no c.length) rfl R.lt;have := R.neg;omega
theorem zdb {ns : List Int} {as0 : List Addr} (h : ns.map V.int = as0.map V.ref) : ns = [] := by
  cases ns with
  | nil => rfl
  | cons z p => cases as0 <;> simp at h
theorem PaperAt.past {H : Hp} {l a c : Addr} {o : HO} {k : Nat} {as0 : List Addr} {gs : List (Int × List Nat × Addr)} (hl : H l = some (.lst (as0.map V.ref))) (h0 : ∀ a ∈ as0, ∃ us, H a = some (.tup us)) (h : PaperAt H a k c gs) (ne : gs ≠ []) (nr : ∀ e ∈ gs, e.2.1 ≠ []) : PaperAt (upd H l o) a k c gs := by
  obtain ⟨pl, rl, h1, h2, h3⟩ := h.ex;have k1 : a ≠ l := fun e => by rw [e, hl] at h1; cases h1
  have k2 : pl ≠ l := fun e => by
    rw [e, hl] at h2;have z : as0.map V.ref = (gs.map fun e => e.1).map V.int := by simpa using h2
    have := zdb z.symm;simp at this;exact ne this
  have k4 : ∀ e ∈ gs, e.2.2 ≠ l := fun e he q => by
    have hr := h.road e he;rw [q, hl] at hr;have z : as0.map V.ref = (nI e.2.1).map V.int := by simpa using hr
    have := zdb z.symm;rw [nI] at this;simp at this;exact nr e he this
  have k3 : rl ≠ l := fun e => by
    rw [e, hl] at h3;have z : as0.map V.ref = gs.map fun e => V.ref e.2.2 := by simpa using h3
    cases gs with
    | nil => exact ne rfl
    | cons g gs =>
      cases as0 with
      | nil => simp at z
      | cons b as0 =>
        simp at z;obtain ⟨us, hu⟩ := h0 b ZA;have hr := h.road g ZA;rw [<- z.1, hu] at hr;cases hr
  exact ⟨⟨pl, rl, by rw [zr k1]; exact h1, by rw [zr k2]; exact h2, by rw [zr k3]; exact h3⟩, fun e he => by rw [zr (k4 e he)]; exact h.road e he⟩
theorem Great.ne {rows : List (List Int)} {n : Nat} {gs : List (Int × List Nat × Addr)} (g : Great rows n gs) (h : 0 < n) : gs ≠ [] /\ ∀ e ∈ gs, e.2.1 ≠ [] := by
  refine ⟨fun e => ?_, fun e he q => ?_⟩
  . have := g.len
    rw [e] at this;simp at this;omega
  . obtain ⟨t, ht, rfl⟩ := Zy he
    obtain ⟨s, ws, e1, _⟩ := (g.rds.rd t (by rw [<- g.len]; exact ht)).ex;rw [uf (Zb ht)] at e1;have e1' : (gs[t]).2.1 = s :: ws := e1;rw [q] at e1';cases e1'
theorem PapersAt.past {H : Hp} {l : Addr} {o : HO} {as0 as : List Addr} {xs : List (Nat × List Str)} {F : Nat × List Str -> List (List Int)} {W : Nat × List Str -> Nat} (hl : H l = some (.lst (as0.map V.ref))) (h0 : ∀ a ∈ as0, ∃ us, H a = some (.tup us)) (hw : ∀ x ∈ xs, 0 < W x) (h : PapersAt H as xs F W) : PapersAt (upd H l o) as xs F W := ⟨h.len, fun i a x e1 e2 => by
  obtain ⟨c, gs, h1, h2, h3⟩ := h.at' i a x e1 e2;obtain ⟨n1, n2⟩ := h3.ne (hw x (Zi e2))
  exact ⟨c, gs, h1.past hl h0 n1 n2, by rw [zr (fun e => by rw [e, hl] at h2; cases h2)]; exact h2, h3⟩⟩
theorem PapersAt.tup {H : Hp} {as : List Addr} {xs : List (Nat × List Str)} {F : Nat × List Str -> List (List Int)} {W : Nat × List Str -> Nat} (h : PapersAt H as xs F W) : ∀ a ∈ as, ∃ us, H a = some (.tup us) := fun a ha => by
  obtain ⟨j, hj, rfl⟩ := Zy ha;have hj2 : j < xs.length := by rw [<- h.len]; exact hj
  obtain ⟨c, gs, h1, _⟩ := h.at' j _ _ (Zb hj) (Zb hj2);obtain ⟨pl, rl, z, _⟩ := h1.ex;exact ⟨_, z⟩
theorem ja {outs : List Str} {ds : List HD} (G : GoodHouse outs ds) {x : Nat × List Str} (h : x.1 < ds.length) : 0 < vt ds x /\ vt ds x <= 8 := by
  obtain ⟨k, o⟩ := x;rw [ny (Zb h)];have := G.words1 _ (Zl h);omega
theorem zg9 {K : Fg} {H : Hp} {g : Addr} {ls : List Addr} {f : List Str -> Str} {outs : List Str} {ds : List HD} (G : GoodHouse outs ds) {x : Nat × List Str} (h : x.1 < ds.length) (hg : H g = some (.lst (ls.map V.ref))) (I : IntsAt H ls (xu f outs ds x)) : Gd K H g (xu f outs ds x) (vt ds x) := by
  have h8 := (ja G h).2;obtain ⟨k, o⟩ := x;have hd : ds[k]? = some ds[k] := Zb h;have ro := G.rows _ (Zl h);have e1 := o5 (f := f) (outs := outs) (o := o) hd;have e2 := ny (o := o) hd;have lr : (xu f outs ds (k, o)).length = vt ds (k, o) := by rw [e1, e2, colP, Za]; exact ro
  refine ⟨⟨ls, ⟨.of hg, by rw [I.len], fun i r ns a1 a2 => .of (I.at' i r ns a1 a2)⟩, by rw [I.len, lr]⟩, fun i hi => ⟨(xu f outs ds (k, o))[i]'(by omega), Zb (by omega), ?_⟩, h8⟩;have hm : (xu f outs ds (k, o))[i]'(by omega) ∈ xu f outs ds (k, o) := Zl _;generalize (xu f outs ds (k, o))[i]'(by omega) = r at *;rw [e1] at hm;obtain ⟨r', _, rfl⟩ := Zp.mp hm;rw [Za, putP, Za, e2]
def PvVd (p t l gl : Addr) (gas : List Addr) (xs : List (Nat × List Str)) (F : Nat × List Str -> List (List Int)) (W : Nat × List Str -> Nat) (H : Hp) (i : Nat) (σ : L2.St) (H' : Hp) : Prop := ∃ (as : List Addr) (v1 v2 v3 v4 : Option V), Same H H' /\ H' l = some (.lst (as.map V.ref)) /\ H' gl = some (.lst (gas.map V.ref)) /\ GridsAt H' gas xs F /\ PapersAt H' as (xs.take i) F W /\ (∀ (j : Nat) (y : Nat × List Str), j < i -> xs[j]? = some y -> ie (F y) (W y)) /\ σ = [some (.ref p), some (.ref t), some (.ref l), v1, v2, v3, v4]
section
variable {P : Program} {w : World} {K : Fg} {mg : Str -> Option Value} {base : Heap} {a : Ad}
theorem d8 (B : Bt mg) (kx : FnAtX P w K mg base "greatest" 7 ["grid"] (zdn a K)) (D : zc K mg "paper" ik ["k", "others", "grid"]) : FnAt P w K mg base "paper" 8 ["k", "others", "grid"] (zc2 K) := by
  refine FnAt.of D sc_paper (fun vs H Q E h => ?_) (fun f cdv A outer s H vs Q E hr h => ?_)
  . obtain ⟨k, c, g, rows, n, rfl, _⟩ := h
    rfl
  . obtain ⟨k, c, g, rows, n, rfl, hG, h0, no, q⟩ := h
    refine ⟨_, (@zk _ _ _ _ _ (zz (i := 3) sc_paper.nd rfl (Or.inl rfl) (fg kx (hr.mono (by decide)) rfl (za (pv 2) (@zb _)))) (@zg _ _ _ (@zl _ _ _ _ (@y7 _ _ _ _ _ (za (pv 0) (za (pv 1) (za (@zx _ _ _ _ _ _ _ yf (pv 3) (@zj _ _ _ _) (fun _ _ => rfl)) (za (@zx _ _ _ _ _ _ _ yf (pv 3) (@zj _ _ _ _) (fun _ _ => rfl)) (@zb _))))))))), ?_⟩;rw [show start ["k", "others", "grid", "told"] [V.int k, V.ref c, V.ref g] = [some (V.int k), some (V.ref c), some (V.ref g), none] from rfl];simp only [zd, ze, ↓reduceIte];refine ⟨g, rows, n, rfl, hG, h0, fun H1 v gs S1 Td Gt => ?_, fun H1 cc S1 R => (zg5 no R).elim⟩;obtain ⟨tp, pl, rl, rfl, d1, d2, d3⟩ := Td.ex;simp only [zd, ze, ↓reduceIte];refine ⟨_, .of d1, _, rfl, _, .of d1, _, rfl, by decide, fun p hp => ?_⟩;have S2 : Same H1 (upd H1 p (.tup [V.int k, V.ref c, V.ref pl, V.ref rl])) := Same.upd (Same.refl _) hp;exact q _ p gs (S1.trans S2) ⟨⟨pl, rl, zf, S2 _ _ d2, S2 _ _ d3⟩, fun e he => S2 _ _ (Td.road e he)⟩ Gt
theorem ju (B : Bt mg) (ky : FnAt P w K mg base "grids_of" 4 ["house", "table"] bb) (j3 : FnAt P w K mg base "ring" 5 ["grid"] (zbi K)) (d8 : FnAt P w K mg base "paper" 8 ["k", "others", "grid"] (zc2 K)) (D : zc K mg "verdict" mr ["house", "table"]) : FnAt P w K mg base "verdict" 9 ["house", "table"] (bx K) := by
  refine FnAt.of D sc_verdict (fun vs H Q E h => ?_) (fun f cdv A outer s H vs Q E hr h => ?_)
  . obtain ⟨p, o, h, t, hs, outs, ds, f, rs, rfl, _⟩ := h
    rfl
  . obtain ⟨p, o, h, t, hs, outs, ds, f, rs, rfl, hH, G, ht, hD, q1, q2⟩ := h
    refine ⟨_, (@zk _ _ _ _ _ (zz (i := 2) sc_verdict.nd rfl (Or.inl rfl) (@wj _ _ _ _ (@zb _))) (@zk _ _ _ _ _ (yx PassesOwn.never rfl (@z8 _ _ _ _ (zh ky (hr.mono (by decide)) rfl (za (pv 0) (za (pv 1) (@zb _))))) (qu rfl (yq (zm (i := 3) sc_verdict.nd rfl (Or.inl rfl)) (yq (zm (i := 4) sc_verdict.nd rfl (Or.inl rfl)) (yq (zm (i := 5) sc_verdict.nd rfl (Or.inl rfl)) (@t6 _))))) (@zk _ _ _ _ _ (zz (i := 6) sc_verdict.nd rfl (Or.inl rfl) (zh j3 (hr.mono (by decide)) rfl (za (pv 5) (@zb _)))) (@zk _ _ _ _ _ (@y9 _ _ _ _ _ _ _ _ (@y6 _ _ _ _ _ _ _ _ cq (pv 6) (@qv _ _ _) (yu _)) (@zg _ _ _ (@zl _ _ _ _ (@y7 _ _ _ _ _ (za (@uz _ _ _ _) (za (pv 3) (za (pv 4) (za (pv 6) (@zb _)))))))) (@yg _)) (@zg _ _ _ (vx (qk PySem.F.plainAttrs_list PySem.F.slot_list_append PySem.F.type_list_append t7 (pv 2) (za (zh d8 (hr.mono (by decide)) rfl (za (pv 3) (za (pv 4) (za (pv 5) (@zb _))))) (@zb _)))))))) (@zg _ _ _ (@zl _ _ _ _ (@y7 _ _ _ _ _ (za (@uz _ _ _ _) (za (pv 2) (@zb _)))))))), ?_⟩;rw [show start ["house", "table", "papers", "k", "others", "grid", "found"] [V.ref p, V.ref t] = [some (V.ref p), some (V.ref t), none, none, none, none, none] from rfl];simp only [zd, ze, ↓reduceIte];refine ⟨by decide, fun l0 hl0 => ?_⟩;have S1 : Same H (upd H l0 (.lst [])) := Same.upd (Same.refl _) hl0;have h1 : upd H l0 (.lst []) l0 = some (.lst (([] : List Addr).map V.ref)) := zf;generalize upd H l0 (.lst []) = H1 at *;refine ⟨p, o, h, t, hs, outs, ds, f, rs, rfl, hH.mono S1, G, S1 _ _ ht, hD, fun H2 gl gas S2 ngl hgl GA => ⟨gl, rfl, ⟨_, .of hgl⟩, ?_⟩⟩;have S12 := S1.trans S2;have hgn : gl ≠ l0 := fun e => by rw [e, h1] at ngl; cases ngl
    have hmem : ∀ x ∈ dueK ds ds.length, x.1 < ds.length := fun x hx => (jk hx).1
    have hfew := o6 G _ (Zm _);have h4 := G.hands.2;generalize dueK ds ds.length = xs at *;have hne : ∀ x ∈ xs, xu f outs ds x ≠ [] /\ ∀ r ∈ xu f outs ds x, r ≠ [] := fun x hx => zbf G (hmem x hx)
    refine vh (xs := gas.map V.ref) (PvVd p t l0 gl gas xs (xu f outs ds) (vt ds) H) ⟨[], _, _, _, _, S12, S2 _ _ h1, hgl, GA, ⟨rfl, fun i a x e => by simp at e⟩, fun j y h => absurd h (YH _), rfl⟩ ?_ ?_ ?_
    . rintro i σ H3 hi ⟨as, v1, v2, v3, v4, S3, h3, hg3, GA3, P3, no, rfl⟩
      exact .of hg3
    . rintro i y σ H3 hy ⟨as, v1, v2, v3, v4, S3, h3, hg3, GA3, P3, no, rfl⟩
      obtain ⟨c, hc, rfl⟩ := vk hy;have hi : i < xs.length := by have := (Zc.mp hc).1; have := GA3.len; omega
      have ex : xs[i]? = some xs[i] := Zb hi;have hk := hmem _ (Zl hi);obtain ⟨cc, g, ls, t1, t2, t3, I3⟩ := GA3.at' i c _ hc ex;have hwp := ja G hk;have GD : Gd K H3 g (xu f outs ds xs[i]) (vt ds xs[i]) := zg9 G hk t3 I3;generalize hx : xs[i] = x at *;simp only [zd, ze, ↓reduceIte];refine ⟨_, .of t1, rfl, _, _, rfl, _, _, rfl, _, _, rfl, rfl, g, _, _, rfl, GD, hwp.1, fun H4 S4 nn => ?_, fun H4 l4 cy S4 h4' R => ?_⟩
      . have nr : ie (xu f outs ds x) (vt ds x) := NoNeg.all nn
        refine ite2 (fun h => absurd h (by simp)) fun _ => ⟨.inl ⟨rfl, _, .of (S4 _ _ h3)⟩, x.1, cc, g, _, _, rfl, GD.mono S4, hwp.1, nr, fun H5 pa gs S5 hp5 Gt => ?_⟩
        have S45 := S4.trans S5;have hl5 := S45 _ _ h3;have P5 := P3.mono S45;have GA5 := GA3.mono S45;refine ⟨_, hl5, ?_, as ++ [pa], _, _, _, _, Same.upd (S3.trans S45) hl0, by rw [zf, Zn]; rfl, by rw [zr hgn]; exact S45 _ _ hg3, GA5.past hl5 P5.tup hne, ?_, fun j y hj ey => ?_, rfl⟩
        . rw [Za, P5.len, Zj]
          exact Ym (show _ <= 4 * 4096 by omega) (by decide)
        . rw [Zq, ex]
          exact (P5.snoc (x := x) hp5 (S45 _ _ t2) Gt).past hl5 P5.tup fun z hz => by
            rcases ZH.mp hz with q | q
            . exact (ja G (hmem z (List.mem_of_mem_take q))).1
            . rw [ZC.mp q]; exact hwp.1
        . by_cases e : j = i
          . subst e
            rw [ex] at ey;cases ey;exact nr
          . exact no j y (by omega) ey
      . refine ite2 (fun _ => ⟨by decide, fun tp htp => ?_⟩) fun h => absurd (by simp : (!decide (V.ref l4 = V.non)) = true) h
        have S5 : Same H4 (upd H4 tp (.tup [V.str (Str.ofString "ring"), V.int x.1, V.ref cc, V.ref l4])) := Same.upd (Same.refl _) htp;exact q2 _ tp cc l4 i x cy (S3.trans (S4.trans S5)) ex no zf ((S4.trans S5) _ _ t2) (S5 _ _ h4') R
    . rintro σ H3 ⟨as, v1, v2, v3, v4, S3, h3, hg3, GA3, P3, no, rfl⟩
      simp only [zd, ze, ↓reduceIte];rw [Za, GA3.len, Zt] at P3;refine ⟨by decide, fun tp htp => ?_⟩;have S5 : Same H3 (upd H3 tp (.tup [V.str (Str.ofString "pays"), V.ref l0])) := Same.upd (Same.refl _) htp;exact q1 _ tp l0 as (S3.trans S5) zf (S5 _ _ h3) (P3.mono S5)
end
def za0 : Sp := fun vs H Q _ => ∃ (b o t c : Addr) (xs : List HX) (outs : List Str) (ds : List HD) (f : List Str -> Str) (rs : List (List Str)) (ot : List Str) (k : Nat) (d : HD), vs = [.ref b, .ref o, .ref t, .int k, .ref c] /\ HandsL H b xs ds /\ GoodHouse outs ds /\ H o = some (.lst (outs.map V.str)) /\ H t = some (.dT (x8 f rs)) /\ ds[k]? = some d /\ H c = some (.tup (ot.map V.str)) /\ ix f rs outs ot k d /\
  ∀ H' l ls, Same H H' -> H' l = some (.lst (ls.map V.ref)) -> IntsAt H' ls (colP d (putP f outs ot k d.words)) -> Q (.ref l) H'
def PvPq (H : Hp) (f : List Str -> Str) (outs o : List Str) (k : Nat) (us : List Str) (i : Nat) (ys : List V) (H' : Hp) : Prop := Same H H' /\ ys = (nI (putP f outs o k (us.take i))).map V.int
def PvWb (H : Hp) (ns : List Int) (ps : List Nat) (i : Nat) (ys : List V) (H' : Hp) : Prop := Same H H' /\ ys = ((ps.take i).map fun p => ns.getD p 0).map V.int
structure GrA (H : Hp) (g : Addr) (rows : List (List Int)) (n : Nat) : Prop where
  ex : ∃ ls, H g = some (.lst (ls.map V.ref)) /\ IntsAt H ls rows
  len : rows.length = n
  wid : ∀ r ∈ rows, r.length = n
theorem GrA.at' {K : Fg} {H : Hp} {g : Addr} {rows : List (List Int)} {n : Nat} (G : GrA H g rows n) : ∃ ls : List Addr, SqL K H g (ls.map V.ref) /\ ls.length = n /\ ∀ t, t < n -> ∃ (r : Addr) (ns : List Int), atI (ls.map V.ref) (t : Int) = some (V.ref r) /\ SqL K H r (ns.map V.int) /\ ns.length = n /\ ∀ s, s < n -> ns[s]? = some (gcA rows t s) := by
  obtain ⟨ls, h1, h2⟩ := G.ex;refine ⟨ls, .of h1, by rw [h2.len, G.len], fun t ht => ?_⟩;have hr : t < rows.length := by rw [G.len]; exact ht
  have hl : t < ls.length := by rw [h2.len]; exact hr
  have er : rows[t]? = some rows[t] := Zb hr;have wr := G.wid _ (Zl hr);refine ⟨ls[t], rows[t], ya (by rw [Ze, Zb hl]; rfl), .of (h2.at' t _ _ (Zb hl) er), wr, fun s hs => ox er (by omega)⟩
section
variable {P : Program} {w : World} {K : Fg} {mg : Str -> Option Value} {base : Heap} {a : Ad}
theorem oy (B : Bt mg) (D : zc K mg "_law_column" su ["hands", "outcomes", "table", "k", "others"]) : FnAt P w K mg base "_law_column" 1 ["hands", "outcomes", "table", "k", "others"] za0 := by
  refine FnAt.of D sc_law_column (fun vs H Q E h => ?_) (fun f cdv A outer s H vs Q E hr h => ?_)
  . obtain ⟨b, o, t, c, xs, outs, ds, f, rs, ot, k, d, rfl, _⟩ := h
    rfl
  . obtain ⟨b, o, t, c, xs, outs, ds, f, rs, ot, k, d, rfl, hH, G, ho, ht, hd, hc, ⟨hk, h8, hD⟩, q⟩ := h
    refine ⟨_, (@zk _ _ _ _ _ (zz (i := 5) sc_law_column.nd rfl (Or.inr rfl) (z0 ["word"] ["hands", "outcomes", "table", "k", "others", "places"] rfl (@z8 _ _ _ _ (@zx _ _ _ _ _ _ _ yf (@zx _ _ _ _ _ _ _ ye (pv 0) (pv 3) (fun _ _ => rfl)) (@zj _ _ _ _) (fun _ _ => rfl))) (fun _ => (zm (i := 0) (show (["word", "hands", "outcomes", "table", "k", "others", "places"] : List Str).Nodup by decide +kernel) rfl (Or.inl rfl))) (fun _ => (@zy _)) (fun _ => (qk PySem.F.plainAttrs_list PySem.F.slot_list_index PySem.F.type_list_index br (pv 2) (za (@zdf _ _ _ _ _ _ (hu10 hr) (pv 3) (@zp _ _ _ _ _ _ _ _ ri (@zp _ _ _ _ _ _ _ _ ri (@vn _ _ _ _ _ _ _ _ _ _ im (pv 5) (@ul _) (@uk _ _ _ (pv 4))) (@y7 _ _ _ _ _ (za (pv 0) (@zb _)))) (@vn _ _ _ _ _ _ _ _ _ _ im (pv 5) (@uk _ _ _ (pv 4)) (@ul _))) (fun _ _ => rfl)) (@zb _)))) rfl (by decide +kernel) rfl rfl)) (@zg _ _ _ (@zl _ _ _ _ (zhs ["worths"] ["hands", "outcomes", "table", "k", "others", "places"] rfl (@z8 _ _ _ _ (@zx _ _ _ _ _ _ _ yf (@zx _ _ _ _ _ _ _ ye (pv 0) (pv 3) (fun _ _ => rfl)) (@zj _ _ _ _) (fun _ _ => rfl))) (fun _ => (zm (i := 0) (show (["worths", "hands", "outcomes", "table", "k", "others", "places"] : List Str).Nodup by decide +kernel) rfl (Or.inr rfl))) (fun _ => (@zy _)) (fun _ => (z0 ["place"] ["worths", "hands", "outcomes", "table", "k", "others", "places"] rfl (@z8 _ _ _ _ (pv 6)) (fun _ => (zm (i := 0) (show (["place", "worths", "hands", "outcomes", "table", "k", "others", "places"] : List Str).Nodup by decide +kernel) rfl (Or.inl rfl))) (fun _ => (@zy _)) (fun _ => (@zx _ _ _ _ _ _ _ ye (pv 1) (pv 0) (fun _ _ => rfl))) rfl (by decide +kernel) rfl rfl)) rfl (by decide +kernel) rfl rfl)))), ?_⟩;rw [show start ["hands", "outcomes", "table", "k", "others", "places"] [V.ref b, V.ref o, V.ref t, V.int k, V.ref c] = [some (V.ref b), some (V.ref o), some (V.ref t), some (V.int k), some (V.ref c), none] from rfl];simp only [zd, ze, ↓reduceIte];have hkl : k < ds.length := (Zc.mp hd).1;obtain ⟨x, hx⟩ : ∃ x, xs[k]? = some x := ⟨xs[k]'(by rw [hH.len]; exact hkl), by simp⟩;have hA := hH.hand k x d hx hd;have hmd := Zi hd;have w8 := (G.words1 d hmd).2;have ro := G.rows d hmd;refine ⟨_, .of hH.at', _, ya (v := V.ref x.t) (by rw [Ze, hx]; rfl), x.t, rfl, _, .of hA.tup, _, rfl, x.w, rfl, ⟨_, .of hA.words⟩, fun dd => ?_⟩;refine yb (xs := d.words.map V.str) (PvPq H f outs ot k d.words) ⟨Same.refl _, rfl⟩ ?_ ?_ ?_
    . rintro i ys H2 hi ⟨S2, rfl⟩
      refine ⟨?_, .of (S2 _ _ hA.words)⟩;rw [Za, nI, Za, putP, Za, Zj];exact Zd (ZB _ _) (Zd w8 (by decide))
    . rintro i y ys H2 hy ⟨S2, rfl⟩
      obtain ⟨u, hu, rfl⟩ := ym hy;obtain ⟨z1, z2⟩ := hD u (Zi hu);simp only [zd, ze, ↓reduceIte];refine ⟨.inl ⟨rfl, _, .of (S2 _ _ ho)⟩, _, S2 _ _ hc, fun H1 p1 S1 h1 => ⟨by decide, fun p2 hp2 => ?_⟩⟩;rw [iq (by rw [Za]; exact hk)] at h1;have T2 : Same H1 (upd H1 p2 (.tup [V.str u])) := Same.upd (Same.refl _) hp2;refine ⟨_, T2 _ _ h1, _, zf, ?_, fun H3 p3 S3 h3 => ?_⟩
      . rw [Zj, Za]
        exact Zd (show _ <= 9 by simp; omega) (by decide)
      have S23 := S2.trans (S1.trans (T2.trans S3));refine ⟨_, S23 _ _ hc, fun H4 p4 S4 h4 => ?_⟩;rw [mi (by rw [Za]; exact hk)] at h4;refine ⟨_, S4 _ _ h3, _, h4, ?_, fun H5 p5 S5 h5 => ?_⟩
      . simp only [Zo, Zj, ZP, Za, ZL, ZZ]
        exact Zd (show _ <= 17 by omega) (by decide)
      have S25 := S23.trans (S4.trans S5)
      have hrow : H5 p5 = some (.tup ((insP ot k u).map V.str)) := by
        rw [h5, insP];simp
      have hval : valV (x8 f rs) (vf (insP ot k u)) = some (V.str (f (insP ot k u))) := dz z1
      have gt : DGet H5 t (.ref p5) (some (V.str (f (insP ot k u)))) := by
        have := DGet.t (k := vf (insP ot k u)) (S25 _ _ ht) (b := p5) (by rw [j1]; exact hrow)
        rwa [hval] at this
      refine ⟨_, gt, _, .of (S25 _ _ ho), _, jq z2, S25, ?_⟩;rw [Zq, hu];simp [putP, nI]
    . rintro ys H2 ⟨S2, rfl⟩ l hl
      rw [Za, Zt];have S3 : Same H2 (upd H2 l (.lst ((nI (putP f outs ot k d.words)).map V.int))) := Same.upd (Same.refl _) hl;have h3 : upd H2 l (.lst ((nI (putP f outs ot k d.words)).map V.int)) l = some (.lst ((nI (putP f outs ot k d.words)).map V.int)) := zf;generalize upd H2 l (.lst ((nI (putP f outs ot k d.words)).map V.int)) = H3 at *;have S13 := S2.trans S3;have hH3 := hH.mono S13;have hA3 := hA.mono S13
      have hps : ∀ p ∈ putP f outs ot k d.words, p < outs.length := fun p hp => by
        obtain ⟨u, hu, rfl⟩ := Zp.mp hp;exact Zz.mpr (hD u hu).2
      have lps : (putP f outs ot k d.words).length = d.words.length := by rw [putP, Za]
      generalize putP f outs ot k d.words = ps at *;refine ⟨_, .of hH3.at', _, ya (v := V.ref x.t) (by rw [Ze, hx]; rfl), x.t, rfl, _, .of hA3.tup, _, rfl, x.g, rfl, ⟨_, .of hA3.grid⟩, fun dd => ?_⟩;refine yb (xs := x.gs.map V.ref) (PvCl H3 d ps) ⟨Same.refl _, [], rfl, rfl, fun i a r e => by simp at e⟩ ?_ ?_ ?_
      . rintro i ys H4 hi ⟨S4, as, rfl, T4⟩
        refine ⟨?_, .of (S4 _ _ hA3.grid)⟩;rw [Za, T4.len, Zj, colP, Za];exact Zd (ZB _ _) (Zd (show _ <= 8 by omega) (by decide))
      . rintro i y ys H4 hy ⟨S4, as, rfl, T4⟩
        obtain ⟨e, he, rfl⟩ := vk hy;have hi : i < d.worths.length := by have := (Zc.mp he).1; have := hA3.len; omega
        have er : d.worths[i]? = some d.worths[i] := Zb hi;have hrow := S4 _ _ (hA3.row i e _ he er);have hcl := G.cols d hmd _ (Zl hi);have hl4 := S4 _ _ h3;simp only [zd, ze, ↓reduceIte];refine ⟨⟨_, .of hl4⟩, fun dd => ?_⟩;refine yb (xs := (nI ps).map V.int) (PvWb H4 d.worths[i] ps) ⟨Same.refl _, rfl⟩ ?_ ?_ ?_
        . rintro j ys H5 hj ⟨S5, rfl⟩
          refine ⟨?_, .of (S5 _ _ hl4)⟩;rw [Za, Za, Zj];exact Zd (ZB _ _) (Zd (show _ <= 8 by omega) (by decide))
        . rintro j y ys H5 hy ⟨S5, rfl⟩
          obtain ⟨z, hz, rfl⟩ := a8 hy;rw [nI, Ze] at hz
          obtain ⟨pl, hpl⟩ : ∃ y, ps[j]? = some y := by
            cases e : ps[j]? with
            | none => rw [e] at hz; cases hz
            | some y => exact ⟨y, rfl⟩
          rw [hpl] at hz;cases hz;have lt := hps pl (Zi hpl);rw [<- hcl] at lt;have ex : (d.worths[i])[pl]? = some ((d.worths[i]).getD pl 0) := by rw [Zk, Zb lt]; rfl
          simp only [zd, ze, ↓reduceIte];refine ⟨_, .of (S5 _ _ hrow), _, vg ex, S5, ?_⟩;rw [Zq, hpl, Zn, Zn];rfl
        . rintro ys H5 ⟨S5, rfl⟩ l2 hl2
          rw [Za, nI, Za, Zt];have S6 : Same H5 (upd H5 l2 (.lst ((ps.map fun p => (d.worths[i]).getD p 0).map V.int))) := Same.upd (Same.refl _) hl2;refine ⟨S4.trans (S5.trans S6), as ++ [l2], by simp, ?_⟩;rw [Zq, colP, Ze, er];exact (T4.mono (S5.trans S6)).snoc zf
      . rintro ys H4 ⟨S4, as, rfl, T4⟩ l2 hl2
        rw [Za, hA3.len, ZG (by rw [colP, Za]; exact Zm _)] at T4;have S5 : Same H4 (upd H4 l2 (.lst (as.map V.ref))) := Same.upd (Same.refl _) hl2;exact q _ l2 as (S13.trans (S4.trans S5)) zf (T4.mono S5)
end
def HonW (wt : Int) (rows : List (List Int)) (ps : List Int) (n : Nat) : Prop := ∀ t s : Nat, t < n -> s < n -> wt * (gcA rows t s - gcA rows t t) <= ps.getD s 0 - ps.getD t 0
theorem zdg {wt : Int} {rows : List (List Int)} {ps : List Int} {n : Nat} (h : HonW wt rows ps n) : ∀ (ws : List Nat) (s : Nat), s < n -> (∀ x ∈ ws, x < n) -> ps.getD (lst s ws) 0 - ps.getD s 0 <= wt * wk (zw rows) s ws
  | [], s, _, _ => by show ps.getD s 0 - ps.getD s 0 <= wt * 0; omega
  | w :: ws, s, hs, hw => by
    have hw' := hw w ZA;have h1 := zdg h ws w hw' fun x hx => hw x (Zv _ hx)
    have h2 := h w s hw' hs;have e : wt * (gcA rows w s - gcA rows w w) = -(wt * zw rows s w) := by rw [<- Int.mul_neg]; congr 1; unfold zw; omega
    show ps.getD (lst w ws) 0 - ps.getD s 0 <= wt * (zw rows s w + wk (zw rows) w ws)
    rw [Int.mul_add];omega
theorem zhq {wt : Int} {rows : List (List Int)} {ps : List Int} {n : Nat} {c : List Nat} (h1 : 1 <= wt) (R : RingA (zw rows) n c) : ¬ HonW wt rows ps n := fun h => by
  have neg := R.neg;have lt := R.lt;have two := R.two
  cases c with
  | nil => simp at two
  | cons s ws =>
    have hs := lt s ZA
    have := zdg h (ws ++ [s]) s hs fun x hx => by
      rcases ZH.mp hx with z | z
      . exact lt x (Zv _ z)
      . rw [ZC.mp z]; exact hs
    rw [wc] at this;have neg' : wk (zw rows) s (ws ++ [s]) < 0 := neg;have := Int.mul_neg_of_pos_of_neg (show 0 < wt by omega) neg';omega
theorem wg {xs : List Int} {j : Nat} (h : j < xs.length) : xs.getD j 0 = xs[j] := by rw [Zk, Zb h]; rfl
theorem jm {n j : Nat} (hj : j < n) : ∀ (ps : List (List Int)) (hc : List Int), hc.length = n -> (∀ p ∈ ps, p.length = n) -> (xg hc ps).getD j 0 = hc.getD j 0 + (ps.map fun p => p.getD j 0).sum
  | [], hc, _, _ => by show hc.getD j 0 = hc.getD j 0 + 0; omega
  | p :: ps, hc, h, hp => by
    have hpl := hp p ZA;have := jm hj ps (List.zipWith (· + ·) hc p) (by rw [Yd, h, hpl, YG]) fun q hq => hp q (Zv _ hq)
    show (xg (List.zipWith (· + ·) hc p) ps).getD j 0 = _
    rw [this, ZM, List.sum_cons, wg (xs := List.zipWith (· + ·) hc p) (by rw [Yd, h, hpl, YG]; exact hj), List.getElem_zipWith, wg (xs := hc) (by omega), wg (xs := p) (by omega)];omega
theorem zag {F G : Nat -> Int} : ∀ m, (∀ i, i < m -> F i = G i) -> ((List.range m).map F).sum = ((List.range m).map G).sum
  | 0, _ => rfl
  | m + 1, h => by
    rw [ZU, Zn, Zn, YK, YK, zag m fun i hi => h i (by omega)];simp [h m (by omega)]
theorem zc8 {F G : Nat -> Int} {k : Nat} : ∀ m, k < m -> (∀ i, i < m -> i ≠ k -> F i = G i) -> ((List.range m).map F).sum - F k = ((List.range m).map G).sum - G k
  | 0, h, _ => by omega
  | m + 1, hk, h => by
    rw [ZU, Zn, Zn, YK, YK]
    by_cases e : k = m
    . subst e
      rw [zag k fun i hi => h i (by omega) (by omega)];simp
    . have := zc8 m (by omega) fun i hi hn => h i (by omega) hn
      have hm := h m (by omega) (Ne.symm e);simp [hm];omega
theorem zgu {α : Type} {r : List α} {k j : Nat} {u v : α} (h : k <= r.length) (hj : j ≠ k) : (insP r k u)[j]? = (insP r k v)[j]? := by
  have lt : (r.take k).length = k := by rw [Zj]; omega
  by_cases e : j < k
  . rw [insP, insP, Zg (by omega), Zg (by omega)]
  . rw [insP, insP, Zf (by omega), Zf (by omega), lt]
    obtain ⟨i, hi⟩ : ∃ i, j - k = i + 1 := ⟨j - k - 1, by omega⟩;rw [hi];rfl
theorem zfv {α : Type} {o : List α} {wss : List (List α)} {k : Nat} {ws : List α} {u : α} (hk : wss[k]? = some ws) (h : aq o (wss.eraseIdx k)) (hu : u ∈ ws) : aq (insP o k u) wss := by
  have hkl := (Zc.mp hk).1;have lo : o.length + 1 = wss.length := by have := h.1; rw [ZS hkl] at this; omega
  refine ⟨by rw [zg8 u (by omega)]; exact lo, fun j vs e => ?_⟩
  by_cases ej : j = k
  . subst ej
    rw [hk] at e;cases e;exact ⟨u, zcr u (by omega), hu⟩
  . have lt : (o.take k).length = k := by rw [Zj]; omega
    by_cases hj : j < k
    . obtain ⟨z, a1, a2⟩ := h.2 j vs (by rw [Yn, if_pos hj]; exact e)
      refine ⟨z, ?_, a2⟩;rw [insP, Zg (by omega), List.getElem?_take, if_pos hj];exact a1
    . obtain ⟨z, a1, a2⟩ := h.2 (j - 1) vs (by rw [Yn, if_neg (by omega), show j - 1 + 1 = j by omega]; exact e)
      refine ⟨z, ?_, a2⟩;rw [insP, Zf (by omega), lt];obtain ⟨i, hi⟩ : ∃ i, j - k = i + 1 := ⟨j - k - 1, by omega⟩;rw [hi, Yw, Yu];rw [show k + i = j - 1 by omega];exact a1
theorem zgj {ts : List Int} {j : Nat} (hj : j < ts.length) : ts.getD j 0 <= ts.getD (xx ts) 0 := by
  have hb := fb (ts := ts) (by omega)
  cases e : ts.max? with
  | none => rw [YD] at e; rw [e] at hj; cases hj
  | some x =>
    have h := Yp.mp e
    have hx : ts[xx ts] = x := by
      have h2 : xx ts = ts.idxOf x := by rw [xx, e]; rfl
      have h3 : ts.idxOf x < ts.length := by rw [<- h2]; exact hb
      have : ts[ts.idxOf x] = x := Yv h3;simp only [h2];exact this
    rw [wg hj, wg hb, hx];exact h.2 _ (Zl hj)
theorem za8 {outs : List Str} (h : outs.Nodup) {b : Nat} (hb : b < outs.length) : outs.idxOf outs[b] = b := by
  have hi : outs.idxOf outs[b] < outs.length := Zz.mpr (Zl hb);exact (Yy h).mp (Yv hi)
section
variable {outs : List Str} {ds : List HD} {ws hc : List Int} {k : Nat} {d : HD} {ot : List Str} {wt : Int}
structure Fix (outs : List Str) (ds : List HD) (ws hc : List Int) (k : Nat) (d : HD) (ot : List Str) (wt : Int) : Prop where
  G : GoodHouse outs ds
  lw : ws.length = ds.length
  lh : hc.length = outs.length
  hd : ds[k]? = some d
  hw : ws[k]? = some wt
  w1 : 1 <= wt
  ho : ot ∈ z7 ((ds.map HD.words).eraseIdx k)
def yn (ds : List HD) (ws hc : List Int) (k : Nat) (ot : List Str) (u : Str) : List Int := xg hc (xl ds ws (insP ot k u) ds.length)
theorem Fix.kl (F : Fix outs ds ws hc k d ot wt) : k < ds.length := (Zc.mp F.hd).1
theorem Fix.lo (F : Fix outs ds ws hc k d ot wt) : ot.length + 1 = ds.length := by
  have h := (rowsP_iff.mp F.ho).1;rw [ZS (by rw [Za]; exact F.kl), Za] at h;have := F.kl;omega
theorem Fix.row (F : Fix outs ds ws hc k d ot wt) {u : Str} (hu : u ∈ d.words) : insP ot k u ∈ z7 (ds.map HD.words) :=
  rowsP_iff.mpr (zfv (by rw [Ze, F.hd]; rfl) (rowsP_iff.mp F.ho) hu)
theorem Fix.of (F : Fix outs ds ws hc k d ot wt) {u : Str} (hu : u ∈ d.words) : k9 ds (insP ot k u) := gk (F.row hu)
theorem Fix.part (F : Fix outs ds ws hc k d ot wt) (u : Str) : yy ds ws (insP ot k u) k = r9 d wt u := by
  rw [yy, F.hd, F.hw, zcr u (by have := F.lo; have := F.kl; omega)]
theorem Fix.plen (F : Fix outs ds ws hc k d ot wt) {u : Str} (hu : u ∈ d.words) : ∀ p ∈ xl ds ws (insP ot k u) ds.length, p.length = outs.length := fun q hq => by
  obtain ⟨i, hi, rfl⟩ := Zp.mp hq;exact p8 F.G F.lw (F.of hu) (ZT.mp hi)
theorem Fix.slen (F : Fix outs ds ws hc k d ot wt) {u : Str} (hu : u ∈ d.words) : (yn ds ws hc k ot u).length = outs.length := pq _ _ F.lh (F.plen hu)
theorem Fix.wlen (F : Fix outs ds ws hc k d ot wt) {u : Str} (hu : u ∈ d.words) : (yp d u).length = outs.length := by
  have := p8 F.G F.lw (F.of hu) F.kl;rw [F.part, r9, Za] at this;exact this
theorem Fix.at' (F : Fix outs ds ws hc k d ot wt) {u v : Str} (hu : u ∈ d.words) (hv : v ∈ d.words) {j : Nat} (hj : j < outs.length) :
    (yn ds ws hc k ot u).getD j 0 - wt * (yp d u).getD j 0 = (yn ds ws hc k ot v).getD j 0 - wt * (yp d v).getD j 0 := by
  have hk := F.kl;have lo := F.lo
  have e : ∀ x, x ∈ d.words -> (yy ds ws (insP ot k x) k).getD j 0 = wt * (yp d x).getD j 0 := fun x hx => by
    have := F.wlen hx;rw [F.part, r9, wg (by rw [Za]; omega), List.getElem_map, wg (by omega)]
  have h := zc8 (F := fun i => (yy ds ws (insP ot k u) i).getD j 0) (G := fun i => (yy ds ws (insP ot k v) i).getD j 0) ds.length hk fun i hi hn => by
    show (yy ds ws (insP ot k u) i).getD j 0 = (yy ds ws (insP ot k v) i).getD j 0
    rw [yy, yy, zgu (v := v) (by omega) hn]
  have e1 := e u hu;have e2 := e v hv;rw [yn, yn, jm hj _ _ F.lh (F.plen hu), jm hj _ _ F.lh (F.plen hv), xl, xl, YJ, YJ]
  show hc.getD j 0 + ((List.range ds.length).map fun i => (yy ds ws (insP ot k u) i).getD j 0).sum - _ = hc.getD j 0 + ((List.range ds.length).map fun i => (yy ds ws (insP ot k v) i).getD j 0).sum - _
  omega
theorem Fix.rest_at (F : Fix outs ds ws hc k d ot wt) {u : Str} (hu : u ∈ d.words) {j : Nat} (hj : j < outs.length) : (rq (yn ds ws hc k ot u) (yy ds ws (insP ot k u) k)).getD j 0 = (yn ds ws hc k ot u).getD j 0 - wt * (yp d u).getD j 0 := by
  have h1 := F.slen hu;have h2 := F.wlen hu;rw [F.part, rq, wg (by rw [Yd, r9, Za]; omega), List.getElem_zipWith, wg (by omega), wg (by omega)];simp [r9]
theorem Fix.rest_len (F : Fix outs ds ws hc k d ot wt) {u : Str} (hu : u ∈ d.words) : (rq (yn ds ws hc k ot u) (yy ds ws (insP ot k u) k)).length = outs.length := by
  have h1 := F.slen hu;have h2 := F.wlen hu;rw [F.part, rq, Yd, r9, Za];omega
theorem Fix.rest (F : Fix outs ds ws hc k d ot wt) {u v : Str} (hu : u ∈ d.words) (hv : v ∈ d.words) : rq (yn ds ws hc k ot u) (yy ds ws (insP ot k u) k) = rq (yn ds ws hc k ot v) (yy ds ws (insP ot k v) k) := by
  refine List.ext_getElem (by rw [F.rest_len hu, F.rest_len hv]) fun j h1 h2 => ?_
  have hj : j < outs.length := by rw [F.rest_len hu] at h1; exact h1
  rw [<- wg h1, <- wg h2, F.rest_at hu hj, F.rest_at hv hj];exact F.at' hu hv hj
def payU (ds : List HD) (ws hc : List Int) (k : Nat) (ot : List Str) (u : Str) : Int := zfa (yn ds ws hc k ot u) (yy ds ws (insP ot k u) k)
theorem Fix.pay (F : Fix outs ds ws hc k d ot wt) (h0 : 0 < d.words.length) : ∃ R : List Int, R.length = outs.length /\ ∃ M : Int, M ∈ R /\ (∀ x ∈ R, x <= M) /\ ∀ u ∈ d.words, payU ds ws hc k ot u = M - R.getD (xx (yn ds ws hc k ot u)) 0 /\ xx (yn ds ws hc k ot u) < outs.length /\
    (∀ j, j < outs.length -> (yn ds ws hc k ot u).getD j 0 = R.getD j 0 + wt * (yp d u).getD j 0) /\ ∀ j, j < outs.length -> (yn ds ws hc k ot u).getD j 0 <= (yn ds ws hc k ot u).getD (xx (yn ds ws hc k ot u)) 0 := by
  have hm0 : d.words[0] ∈ d.words := Zl h0;have ho := F.G.outs1;have lr := F.rest_len hm0;refine ⟨rq (yn ds ws hc k ot d.words[0]) (yy ds ws (insP ot k d.words[0]) k), lr, ?_⟩
  cases e : (rq (yn ds ws hc k ot d.words[0]) (yy ds ws (insP ot k d.words[0]) k)).max? with
  | none => rw [YD] at e; rw [e] at lr; simp at lr; omega
  | some M =>
    have h := Yp.mp e;refine ⟨M, h.1, h.2, fun u hu => ?_⟩;have hb : xx (yn ds ws hc k ot u) < outs.length := by rw [<- F.slen hu]; exact fb (by rw [F.slen hu]; omega)
    refine ⟨?_, hb, fun j hj => ?_, fun j hj => zgj (by rw [F.slen hu]; exact hj)⟩
    . rw [payU, zfa, F.rest hu hm0, e]
      rfl
    . have := F.rest_at hu hj
      rw [F.rest hu hm0] at this;omega
theorem Fix.place (F : Fix outs ds ws hc k d ot wt) {u : Str} (hu : u ∈ d.words) (hb : xx (yn ds ws hc k ot u) < outs.length) : outs.idxOf (xn outs ds ws hc (insP ot k u)) = xx (yn ds ws hc k ot u) := by
  rw [xn]
  show outs.idxOf (outs.getD (xx (yn ds ws hc k ot u)) ⟨#[]⟩) = _
  rw [Zk, Zb hb];exact za8 F.G.outsD hb
theorem Fix.deals (F : Fix outs ds ws hc k d ot wt) (h0 : 0 < d.words.length) : ix (xn outs ds ws hc) (z7 (ds.map HD.words)) outs ot k d := by
  obtain ⟨R, _, M, _, _, h⟩ := F.pay h0;have := F.lo;have := F.kl;have := F.G.hands;refine ⟨by omega, by omega, fun u hu => ⟨F.row hu, ?_⟩⟩;obtain ⟨_, hb, _⟩ := h u hu;rw [xn]
  show outs.getD (xx (yn ds ws hc k ot u)) ⟨#[]⟩ ∈ outs
  rw [Zk, Zb hb];exact Zl hb
theorem Fix.wby (F : Fix outs ds ws hc k d ot wt) {t : Nat} (ht : t < d.words.length) : yp d d.words[t] = d.worths.getD t [] := by
  rw [yp, show d.words.idxOf d.words[t] = t from za8 (F.G.wordsD d (Zi F.hd)) ht]
theorem Fix.cell (F : Fix outs ds ws hc k d ot wt) (h0 : 0 < d.words.length) {t s : Nat} (ht : t < d.words.length) (hs : s < d.words.length) :
    gcA (colP d (putP (xn outs ds ws hc) outs ot k d.words)) t s = (yp d d.words[t]).getD (xx (yn ds ws hc k ot d.words[s])) 0 := by
  obtain ⟨R, _, M, _, _, h⟩ := F.pay h0;obtain ⟨_, hb, _⟩ := h _ (Zl hs);have hr : t < d.worths.length := by rw [F.G.rows d (Zi F.hd)]; exact ht
  have e1 : (colP d (putP (xn outs ds ws hc) outs ot k d.words)).getD t [] = (putP (xn outs ds ws hc) outs ot k d.words).map fun p => (d.worths[t]).getD p 0 := by
    rw [colP, Zk, Ze, Zb hr];rfl
  have e2 : (putP (xn outs ds ws hc) outs ot k d.words)[s]? = some (xx (yn ds ws hc k ot d.words[s])) := by
    rw [putP, Ze, Zb hs]
    show some (outs.idxOf (xn outs ds ws hc (insP ot k d.words[s]))) = _
    rw [F.place (Zl hs) hb]
  rw [gcA, e1, Zk, Ze, e2, F.wby ht, Zk (l := d.worths), Zb hr];rfl
def zd0 (ds : List HD) (ws hc : List Int) (k : Nat) (ot us : List Str) : List Int := us.map (payU ds ws hc k ot)
theorem az {us : List Str} {t : Nat} (ht : t < us.length) : (zd0 ds ws hc k ot us).getD t 0 = payU ds ws hc k ot us[t] := by
  rw [zd0, wg (by rw [Za]; exact ht), List.getElem_map]
theorem Fix.hon (F : Fix outs ds ws hc k d ot wt) (h0 : 0 < d.words.length) : HonW wt (colP d (putP (xn outs ds ws hc) outs ot k d.words)) (zd0 ds ws hc k ot d.words) d.words.length := fun t s ht hs => by
  obtain ⟨R, lr, M, _, hM, h⟩ := F.pay h0;obtain ⟨e1, b1, c1, m1⟩ := h _ (Zl ht);obtain ⟨e2, b2, c2, m2⟩ := h _ (Zl hs);have z1 := c1 _ b1;have z2 := c1 _ b2;have z3 := m1 _ b2;rw [az ht, az hs, e1, e2, F.cell h0 ht hs, F.cell h0 ht ht, Int.mul_sub];omega
end
def zec (K : Fg) : Sp := fun vs H Q _ => ∃ (a : Addr) (ns : List Int), vs = [.ref a] /\ SqL K H a (ns.map V.int) /\ ns.length <= 63 /\ ∀ H', Q (.bl true) H'
theorem zf1 {K : Fg} {f : Addr} {fd : FuncData} (F : Fun K "law" "law" i0 f fd) (s : Shared) (u : Value) : BindsTo s fd ⟨[u], []⟩ [("script", u)] := by
  obtain ⟨oc, od, kV, doc, pm, an, cdv, ct, osl, rfl, lk, hcd⟩ := F.ex;exact .of_eq rfl
theorem qz {α β : Type} {g : α -> β} : ∀ {l : List α} {k : Nat}, (l.eraseIdx k).map g = (l.map g).eraseIdx k
  | [], _ => rfl
  | _ :: _, 0 => rfl
  | _ :: l, k + 1 => by simp only [List.eraseIdx_cons_succ, ZM, qz (l := l)]
theorem HandsL.less {H : Hp} {b b' : Addr} {xs : List HX} {ds : List HD} {k : Nat} (h : HandsL H b xs ds) (hb : H b' = some (.lst ((xs.eraseIdx k).map fun x => V.ref x.t))) : HandsL H b' (xs.eraseIdx k) (ds.eraseIdx k) :=
  ⟨hb, by rw [Yq, Yq, h.len], fun i x d e1 e2 => by
    rw [Yn] at e1 e2
    by_cases hi : i < k
    . rw [if_pos hi] at e1 e2; exact h.hand i x d e1 e2
    . rw [if_neg hi] at e1 e2; exact h.hand (i + 1) x d e1 e2⟩
structure DueAt (H : Hp) (as : List Addr) (xs : List (Nat × List Str)) : Prop where
  len : as.length = xs.length
  at' : ∀ (i : Nat) (a : Addr) (x : Nat × List Str), as[i]? = some a -> xs[i]? = some x -> ∃ c, H a = some (.tup [.int x.1, .ref c]) /\ H c = some (.tup (x.2.map V.str))
theorem DueAt.nil {H : Hp} : DueAt H [] [] := ⟨rfl, fun i a x e => by simp at e⟩
theorem DueAt.mono {H H' : Hp} {as : List Addr} {xs : List (Nat × List Str)} (S : Same H H') (h : DueAt H as xs) : DueAt H' as xs := ⟨h.len, fun i a x e1 e2 => by
  obtain ⟨c, h1, h2⟩ := h.at' i a x e1 e2
  exact ⟨c, S _ _ h1, S _ _ h2⟩⟩
theorem DueAt.snoc {H : Hp} {as : List Addr} {xs : List (Nat × List Str)} {a c : Addr} {x : Nat × List Str} (h : DueAt H as xs) (h1 : H a = some (.tup [.int x.1, .ref c])) (h2 : H c = some (.tup (x.2.map V.str))) : DueAt H (as ++ [a]) (xs ++ [x]) := ⟨by simp [h.len], fun i b y e1 e2 => by
  rcases au h.len e1 e2 with ⟨z1, z2⟩ | ⟨z1, z2⟩
  . exact h.at' i b y z1 z2
  . have : i - as.length = 0 := by have := (Zc.mp z1).1; simp at this; omega
    rw [this] at z1 z2;cases z1;cases z2
    exact ⟨c, h1, h2⟩⟩
theorem DueAt.past {H : Hp} {as : List Addr} {xs : List (Nat × List Str)} {l : Addr} {us : List V} {o : HO} (hl : H l = some (.lst us)) (h : DueAt H as xs) : DueAt (upd H l o) as xs := ⟨h.len, fun i a x e1 e2 => by
  obtain ⟨c, h1, h2⟩ := h.at' i a x e1 e2
  exact ⟨c, by rw [zr (fun e => by rw [e, hl] at h1; cases h1)]; exact h1, by rw [zr (fun e => by rw [e, hl] at h2; cases h2)]; exact h2⟩⟩
def dueT (x : Nat × List Str) : Tr := .tp [.lf (V.int x.1), .tp (x.2.map strT)]
theorem DueAt.trs {K : Fg} {H : Hp} {as : List Addr} {xs : List (Nat × List Str)} (h : DueAt H as xs) : TrsAt K H (xs.map dueT) (as.map V.ref) := by
  refine TrsAt.of (by rw [Za, Za, h.len]) fun j t v e1 e2 => ?_
  obtain ⟨a, ha, rfl⟩ := vk e2;rw [Ze] at e1
  cases ex : xs[j]? with
  | none => rw [ex] at e1; cases e1
  | some x =>
    rw [ex] at e1;cases e1;obtain ⟨c, h1, h2⟩ := h.at' j a x ha ex;exact TrAt.tp (.of h1) (TrsAt.cons (TrAt.lf rfl) (TrsAt.cons (TrAt.tp (.of h2) (zdt _)) TrsAt.nil))
theorem c0 (xs : List (Nat × List Str)) : deep (.ls (xs.map dueT)) <= 8 := by
  have : va (xs.map dueT) <= 4 := aw fun t ht => by
    obtain ⟨x, _, rfl⟩ := Zp.mp ht;simp only [dueT, deep, va, ba];omega
  rw [deep];omega
theorem zeg (xs : List (Nat × List Str)) : ud (.ls (xs.map dueT)) = true := by
  rw [ud];refine kg fun t ht => ?_
  obtain ⟨x, _, rfl⟩ := Zp.mp ht;simp only [dueT, ud, ve, zd7, Bool.and_self, Bool.and_true]
def zgl (K : Fg) : Sp := fun vs H Q _ => ∃ (g l : Addr) (rows : List (List Int)) (n : Nat) (ps : List Int), vs = [.ref g, .ref l] /\ GrA H g rows n /\ n <= 8 /\ H l = some (.lst (ps.map V.int)) /\ ps.length = n /\ (∀ t, t < n -> ps.getD t 0 <= gcA rows t t) /\ Hon rows ps n /\ Q (.bl true) H
def PvF1 (g l : Addr) (m : Nat) (H : Hp) (i : Nat) (σ : L2.St) (H' : Hp) : Prop := H' = H /\ ∃ vs : List (Option V), vs.length = m /\ σ = [some (.ref g), some (.ref l)] ++ vs
def PvF2 (g l : Addr) (m t : Nat) (H : Hp) (i : Nat) (σ : L2.St) (H' : Hp) : Prop := H' = H /\ ∃ vs : List (Option V), vs.length = m /\ σ = [some (.ref g), some (.ref l), some (.int t)] ++ vs
def PvDu (a b o p t tp du : Addr) (n : Nat) (ds : List HD) (H : Hp) (i : Nat) (σ : L2.St) (H' : Hp) : Prop := ∃ (as : List Addr) (v1 v2 v3 : Option V), Same H H' /\ H' du = some (.lst (as.map V.ref)) /\ DueAt H' as (dueK ds i) /\ σ = [some (.ref a), some (.int n), some (.ref b), some (.ref o), some (.ref p), some (.ref t), some (.ref tp), some (.ref du), v1, v2, v3]
def PvDv (a b o p t tp du rl : Addr) (n k : Nat) (bs : List Addr) (os : List (List Str)) (xs : List (Nat × List Str)) (H : Hp) (i : Nat) (σ : L2.St) (H' : Hp) : Prop := ∃ (as : List Addr) (v2 v3 : Option V), Same H H' /\ H' du = some (.lst (as.map V.ref)) /\ RwsAt H' rl bs os /\ DueAt H' as (xs ++ (os.take i).map fun o => (k, o)) /\ σ = [some (.ref a), some (.int n), some (.ref b), some (.ref o), some (.ref p), some (.ref t), some (.ref tp), some (.ref du), some (.int k), v2, v3]
def PvEc (H : Hp) (xs : List (Nat × List Str)) (i : Nat) (ys : List V) (H' : Hp) : Prop := Same H H' /\ ∃ as : List Addr, ys = as.map V.ref /\ DueAt H' as (xs.take i)
def PvLs (a b o p t tp du : Addr) (n : Nat) (v1 v2 : Option V) (H : Hp) (i : Nat) (σ : L2.St) (H' : Hp) : Prop := Same H H' /\ ∃ v3 : Option V, σ = [some (.ref a), some (.int n), some (.ref b), some (.ref o), some (.ref p), some (.ref t), some (.ref tp), some (.ref du), v1, v2, v3]
section
variable {P : Program} {w : World} {K : Fg} {mg : Str -> Option Value} {base : Heap} {a : Ad}
theorem kn (B : Bt mg) (D : zc K mg "_law_fits" oi ["grid", "pays"]) : FnAt P w K mg base "_law_fits" 1 ["grid", "pays"] (zgl K) := by
  refine FnAt.of D sc_law_fits (fun vs H Q E h => ?_) (fun f cdv A outer s H vs Q E hr h => ?_)
  . obtain ⟨g, l, rows, n, ps, rfl, _⟩ := h
    rfl
  . obtain ⟨g, l, rows, n, ps, rfl, G, n8, hl, lp, le, hon, q⟩ := h
    refine ⟨_, (@zk _ _ _ _ _ (yx PassesOwn.never rfl (yk rfl B.range (za (zq zt rfl B.len yi (za (pv 0) (@zb _))) (@zb _))) (zm (i := 2) sc_law_fits.nd rfl (Or.inl rfl)) (@zk _ _ _ _ _ (@y9 _ _ _ _ _ _ _ _ (@y6 _ _ _ _ _ _ _ _ zem (@zx _ _ _ _ _ _ _ ye (pv 1) (pv 2) (fun _ _ => rfl)) (@zx _ _ _ _ _ _ _ ye (@zx _ _ _ _ _ _ _ ye (pv 0) (pv 2) (fun _ _ => rfl)) (pv 2) (fun _ _ => rfl)) (yu _)) (@zg _ _ _ (@zl _ _ _ _ (@v8 _ _ _ _))) (@yg _)) (@zg _ _ _ (yx PassesOwn.never rfl (yk rfl B.range (za (zq zt rfl B.len yi (za (pv 0) (@zb _))) (@zb _))) (zm (i := 3) sc_law_fits.nd rfl (Or.inl rfl)) (@zk _ _ _ _ _ (zz (i := 4) sc_law_fits.nd rfl (Or.inl rfl) (@zp _ _ _ _ _ _ _ _ sv (@zx _ _ _ _ _ _ _ ye (@zx _ _ _ _ _ _ _ ye (pv 0) (pv 2) (fun _ _ => rfl)) (pv 3) (fun _ _ => rfl)) (@zx _ _ _ _ _ _ _ ye (@zx _ _ _ _ _ _ _ ye (pv 0) (pv 2) (fun _ _ => rfl)) (pv 2) (fun _ _ => rfl)))) (@zg _ _ _ (@y9 _ _ _ _ _ _ _ _ (@y6 _ _ _ _ _ _ _ _ zem (pv 4) (@zp _ _ _ _ _ _ _ _ sv (@zx _ _ _ _ _ _ _ ye (pv 1) (pv 3) (fun _ _ => rfl)) (@zx _ _ _ _ _ _ _ ye (pv 1) (pv 2) (fun _ _ => rfl))) (yu _)) (@zg _ _ _ (@zl _ _ _ _ (@v8 _ _ _ _))) (@yg _)))))))) (@zg _ _ _ (@zl _ _ _ _ (@v8 _ _ _ _)))), ?_⟩;rw [show start ["grid", "pays", "t", "s", "more"] [V.ref g, V.ref l] = [some (V.ref g), some (V.ref l), none, none, none] from rfl];simp only [zd, ze, ↓reduceIte];obtain ⟨ls, g1, g2, g3⟩ := G.at' (K := K);refine ⟨_, .inl g1, ?_⟩;rw [Za, g2];refine ⟨by omega, by omega, ?_⟩;rw [Zw];refine xr (PvF1 g l 3 H) ⟨rfl, _, rfl, rfl⟩ ?_ ?_
    . rintro t σ H4 ht ⟨rfl, vs, lv, rfl⟩
      match vs, lv with
      | [v3, v4, v5], _ =>
      obtain ⟨r, ns, a1, a2, a3, a4⟩ := g3 t ht;have le' := le t ht;simp only [zd, ze, ↓reduceIte];refine ⟨_, .of hl, _, vg (j2 (by omega)), _, g1, _, a1, r, rfl, _, a2, _, vg (a4 t ht), _, rfl, _, rfl, ite2 (fun h => absurd (of_decide_eq_true h) (by omega)) fun _ => ?_⟩;refine ⟨_, .inl g1, ?_⟩;rw [Za, g2];refine ⟨by omega, by omega, ?_⟩;rw [Zw];refine xr (PvF2 g l 2 t H4) ⟨rfl, _, rfl, rfl⟩ ?_ ?_
      . rintro s' σ H5 hs ⟨rfl, vs, lv, rfl⟩
        match vs, lv with
        | [v4, v5], _ =>
        have b2 := hon t s' ht hs;simp only [zd, ze, ↓reduceIte];refine ⟨_, g1, _, a1, r, rfl, _, a2, _, vg (a4 s' hs), _, g1, _, a1, r, rfl, _, a2, _, vg (a4 t ht), _, rfl, _, rfl, _, .of hl, _, vg (j2 (by omega)), _, .of hl, _, vg (j2 (by omega)), _, rfl, _, rfl, ite2 (fun h => absurd (of_decide_eq_true h) (by omega)) fun _ => ⟨rfl, _, rfl, rfl⟩⟩
      . rintro σ H5 ⟨rfl, vs, lv, rfl⟩
        exact ⟨rfl, _, by simp [lv], rfl⟩
    . rintro σ H4 ⟨rfl, vs, lv, rfl⟩
      simp only [zd, ze, ↓reduceIte];exact q
theorem law_fn (B : Bt mg) (yr : FnAt P w K mg base "_law_cell" 1 ["script", "k"] (nu K)) (vy : FnAt P w K mg base "_law_names" 1 ["cell", "many"] fc) (mz : FnAt P w K mg base "_law_hands" 2 ["script", "places", "top"] (zar K)) (f_house_of : FnAtX P w K mg base "house_of" 7 ["outcomes", "hands"] zbb) (q9 : FnAt P w K mg base "_law_weights" 2 ["script", "many"] (oh K wu)) (si : FnAt P w K mg base "_law_handicaps" 2 ["script", "places"] (oh K xp)) (nj : FnAt P w K mg base "best_table" 8 ["house", "weights", "handicaps"] (gi K)) (km : FnAt P w K mg base "_law_rows" 1 ["hands"] zcy)
    (oy : FnAt P w K mg base "_law_column" 1 ["hands", "outcomes", "table", "k", "others"] za0) (ju : FnAt P w K mg base "verdict" 9 ["house", "table"] (bx K)) (kn : FnAt P w K mg base "_law_fits" 1 ["grid", "pays"] (zgl K)) {f : Addr} {fd : FuncData} (F : Fun K "law" "law" i0 f fd) : FnOk P w K mg base CX0 10 f fd ["script"] (zec K) := by
  refine F.ok sc_law (fun vs H Q E h => ?_) (fun cdv A outer s H vs Q E hr h => ?_)
  . obtain ⟨b, ns, rfl, _⟩ := h
    rfl
  . obtain ⟨a, ns, rfl, hS, hlen, q⟩ := h
    refine ⟨_, (@zk _ _ _ _ _ (zz (i := 1) sc_law.nd rfl (Or.inl rfl) (@zp _ _ _ _ _ _ _ _ y8 (@zj _ _ _ _) (@zp _ _ _ _ _ _ _ _ x6 (zh yr (hr.mono (by decide)) rfl (za (pv 0) (za (@zj _ _ _ _) (@zb _)))) (@zj _ _ _ _)))) (@zk _ _ _ _ _ (zz (i := 2) sc_law.nd rfl (Or.inl rfl) (zh mz (hr.mono (by decide)) rfl (za (pv 0) (za (pv 1) (za (@zp _ _ _ _ _ _ _ _ l5 (@zj _ _ _ _) (@zj _ _ _ _)) (@zb _)))))) (@zk _ _ _ _ _ (zz (i := 3) sc_law.nd rfl (Or.inl rfl) (zh vy (hr.mono (by decide)) rfl (za (zh yr (hr.mono (by decide)) rfl (za (pv 0) (za (@zj _ _ _ _) (@zb _)))) (za (pv 1) (@zb _))))) (@zk _ _ _ _ _ (zz (i := 4) sc_law.nd rfl (Or.inl rfl) (fg f_house_of (hr.mono (by decide)) rfl (za (vc ni rfl B.list rg (za (pv 3) (@zb _))) (za (vc ni rfl B.list rg (za (pv 2) (@zb _))) (@zb _))))) (@zk _ _ _ _ _ (zz (i := 5) sc_law.nd rfl (Or.inl rfl) (zh nj (hr.mono (by decide)) rfl (za (pv 4) (za (zh q9 (hr.mono (by decide)) rfl (za (pv 0) (za (zq zt rfl B.len yi (za (pv 2) (@zb _))) (@zb _)))) (za (zh si (hr.mono (by decide)) rfl (za (pv 0) (za (pv 1) (@zb _)))) (@zb _)))))) (@zk _ _ _ _ _ (zz (i := 6) sc_law.nd rfl (Or.inl rfl) (zh ju (hr.mono (by decide)) rfl (za (pv 4) (za (pv 5) (@zb _))))) (@zk _ _ _ _ _ (@y9 _ _ _ _ _ _ _ _ (PW.pt (@mx _ _ _ _ _ _ _ (@wn _ _ _ _ (w5 (zq x0 rfl B.isinstance xh (za (pv 6) (za (p6 rfl B.tuple tw) (@zb _)))))) (@mx _ _ _ _ _ _ _ (@y6 _ _ _ _ _ _ _ _ fq (zq zt rfl B.len yi (za (pv 6) (@zb _))) (@zj _ _ _ _) (yu _)) (@nk _ _ _ _ (@y6 _ _ _ _ _ _ _ _ fq (@zx _ _ _ _ _ _ _ yf (pv 6) (@zj _ _ _ _) (fun _ _ => rfl)) (@uz _ _ _ _) (yu _)))))) (@zg _ _ _ (@zl _ _ _ _ (@v8 _ _ _ _))) (@yg _)) (@zk _ _ _ _ _ (zz (i := 7) sc_law.nd rfl (Or.inl rfl) (@wj _ _ _ _ (@zb _))) (@zk _ _ _ _ _ (yx PassesOwn.never rfl (yk rfl B.range (za (zq zt rfl B.len yi (za (pv 2) (@zb _))) (@zb _))) (zm (i := 8) sc_law.nd rfl (Or.inl rfl)) (@zg _ _ _ (yx PassesOwn.never rfl (@z8 _ _ _ _ (zh km (hr.mono (by decide)) rfl (za (@zp _ _ _ _ _ _ _ _ zbk (@vn _ _ _ _ _ _ _ _ _ _ cv (pv 2) (@ul _) (@uk _ _ _ (pv 8))) (@vn _ _ _ _ _ _ _ _ _ _ cv (pv 2) (@uk _ _ _ (@zp _ _ _ _ _ _ _ _ y8 (pv 8) (@zj _ _ _ _))) (@ul _))) (@zb _)))) (zm (i := 9) sc_law.nd rfl (Or.inl rfl)) (@zg _ _ _ (vx (qk PySem.F.plainAttrs_list PySem.F.slot_list_append PySem.F.type_list_append t7 (pv 7) (@za _ _ _ _ _ (@y7 _ _ _ _ _ (@za _ _ _ _ _ (pv 8) (@za _ _ _ _ _ (pv 9) (@zb _) (yd nofun)) (yd nofun))) (@zb _) (yd nofun)))))))) (@zk _ _ _ _ _ (@y9 _ _ _ _ _ _ _ _ (@y6 _ _ _ _ _ _ _ _ (op_neD (n := 8) (hu8 hr)) (z0 ["one"] ["script", "places", "hands", "outcomes", "house", "table", "found", "due", "k", "others", "one?"] rfl (@z8 _ _ _ _ (@zx _ _ _ _ _ _ _ yf (pv 6) (@zj _ _ _ _) (fun _ _ => rfl))) (fun _ => (zm (i := 0) (show (["one", "script", "places", "hands", "outcomes", "house", "table", "found", "due", "k", "others", "one?"] : List Str).Nodup by decide +kernel) rfl (Or.inl rfl))) (fun _ => (@zy _)) (fun _ => (@y7 _ _ _ _ _ (za (@zx _ _ _ _ _ _ _ yf (pv 0) (@zj _ _ _ _) (fun _ _ => rfl)) (za (@zx _ _ _ _ _ _ _ yf (pv 0) (@zj _ _ _ _) (fun _ _ => rfl)) (@zb _))))) rfl (by decide +kernel) rfl rfl) (pv 7) (yu _)) (@zg _ _ _ (@zl _ _ _ _ (@v8 _ _ _ _))) (@yg _)) (@zk _ _ _ _ _ (yx PassesOwn.never rfl (@z8 _ _ _ _ (@zx _ _ _ _ _ _ _ yf (pv 6) (@zj _ _ _ _) (fun _ _ => rfl))) (zm (i := 10) sc_law.nd rfl (Or.inl rfl)) (@zg _ _ _ (@y9 _ _ _ _ _ _ _ _ (@wn _ _ _ _ (w5 (zh kn (hr.mono (by decide)) rfl (za (zh oy (hr.mono (by decide)) rfl (@za _ _ _ _ _ (pv 2) (@za _ _ _ _ _ (pv 3) (@za _ _ _ _ _ (pv 5) (@za _ _ _ _ _ (@zx _ _ _ _ _ _ _ yf (pv 10) (@zj _ _ _ _) (fun _ _ => rfl)) (@za _ _ _ _ _ (@zx _ _ _ _ _ _ _ yf (pv 10) (@zj _ _ _ _) (fun _ _ => rfl)) (@zb _) (yd nofun)) (yd nofun)) (yd nofun)) (yd nofun)) (yd nofun))) (za (@zx _ _ _ _ _ _ _ yf (pv 10) (@zj _ _ _ _) (fun _ _ => rfl)) (@zb _)))))) (@zg _ _ _ (@zl _ _ _ _ (@v8 _ _ _ _))) (@yg _)))) (@zg _ _ _ (@zl _ _ _ _ (@v8 _ _ _ _)))))))))))))), ?_⟩;rw [show start ["script", "places", "hands", "outcomes", "house", "table", "found", "due", "k", "others", "one"] [V.ref a] = [some (V.ref a), none, none, none, none, none, none, none, none, none, none] from rfl];simp only [zd, ze, ↓reduceIte];have hp := pz ns;have hN := ur ns;have lou : (yv (z9 ns 2) (yj ns)).length = yj ns := wz _ _;have e4 := y4 (z9 ns 0) (show (0 : Int) < 4 by decide);refine ⟨a, ns, 0, rfl, hS, ?_⟩;simp only [zd, ze, ↓reduceIte];rw [show 1 + z9 ns 0 % 4 = ((yj ns : Nat) : Int) by unfold yj; omega];refine ⟨by decide, ⟨by decide, by decide, by decide⟩, a, ns, yj ns, 10 ^ 57, rfl, hS, hp.1, hp.2, by decide, by decide, fun H1 b xs N => ?_⟩;simp only [zd, ze, ↓reduceIte];have G := zbx ns (top := 10 ^ 57) (by decide) (by decide) (outs := yv (z9 ns 2) (yj ns)) rfl;have lds : (wo ns (10 ^ 57) (yj ns) (yz ns)).length = yz ns := by rw [wo, Za, ZO]
    have hL1 := N.lists;have S1 := N.same;generalize wo ns (10 ^ 57) (yj ns) (yz ns) = ds at *;refine ⟨a, ns, 2, rfl, S1.seq hS, z9 ns 2, yj ns, rfl, by omega, fun H2 o S2 _ ho2 => ?_⟩;have hL2 := hL1.mono S2;generalize yv (z9 ns 2) (yj ns) = outs at *;refine ⟨o, rfl, _, .inl (.of ho2), fun o2 hn1 => ?_⟩;have T1 : Same H2 (upd H2 o2 (.lst (outs.map V.str))) := Same.upd (Same.refl _) hn1;have t1 : upd H2 o2 (.lst (outs.map V.str)) o2 = some (.lst (outs.map V.str)) := zf;generalize upd H2 o2 (.lst (outs.map V.str)) = K1 at *;have L1 := hL2.mono T1;refine ⟨_, .inl (.of L1.at'), fun b2 hn2 => ?_⟩;have T2 : Same K1 (upd K1 b2 (.lst (xs.map fun x => V.ref x.t))) := Same.upd (Same.refl _) hn2;have t2 : upd K1 b2 (.lst (xs.map fun x => V.ref x.t)) b2 = some (.lst (xs.map fun x => V.ref x.t)) := zf;generalize upd K1 b2 (.lst (xs.map fun x => V.ref x.t)) = K2 at *;have L2' := L1.mono T2;refine ⟨o2, b2, outs, xs, ds, rfl, T2 _ _ t1, ⟨t2, L2'.len, L2'.hand⟩, G, fun H4 p ko kh hs T3 hK => ?_⟩;have S24 := T1.trans (T2.trans T3);have S14 : Same H H4 := S1.trans (S2.trans S24);have hL4 := hL2.mono S24;refine ⟨_, .inl (.of hL4.at'), ?_⟩;rw [Za, hL4.len, lds];refine ⟨a, ns, yz ns, rfl, S14.seq hS, by omega, fun H5 l S5 hl5 => ?_⟩;refine ⟨a, ns, yj ns, rfl, (S14.trans S5).seq hS, by omega, fun H6 m S6 hm6 => ?_⟩;have gw := ak ns (yz ns);have gh := fr ns (yj ns);have lw : (wu ns (yz ns)).length = ds.length := by rw [jt, lds]
    have lh : (xp ns (yj ns)).length = outs.length := by rw [l8, lou]
    generalize wu ns (yz ns) = ws at *;generalize xp ns (yj ns) = hc at *;have hl6 := S6 _ _ hl5;have S46 := S5.trans S6;have hK6 := hK.mono S46;refine ⟨p, ko, kh, l, m, hs, outs, ds, ws, hc, rfl, hK6, G, hl6, lw, gw, hm6, lh, gh, fun H7 t S7 ht7 => ?_⟩;have hK7 := hK6.mono S7;have hL7 := hL4.mono (S46.trans S7);have ho7 := (S24.trans (S46.trans S7)) _ _ ho2;have S17 : Same H H7 := S14.trans (S46.trans S7);have h4 := G.hands.2
    have FX : ∀ (k : Nat) (d : HD) (ot : List Str), ds[k]? = some d -> ot ∈ z7 ((ds.eraseIdx k).map HD.words) -> ∃ wt, Fix outs ds ws hc k d ot wt := fun k d ot hd ho => by
      have hk := (Zc.mp hd).1;obtain ⟨wt, hwt⟩ : ∃ t, ws[k]? = some t := ⟨ws[k]'(by rw [lw]; exact hk), by simp⟩;rw [qz] at ho;exact ⟨wt, ⟨G, lw, lh, hd, hwt, (gw wt (Zi hwt)).2, ho⟩⟩
    have AD : ff (xn outs ds ws hc) (z7 (ds.map HD.words)) outs ds := fun k d ot hd ho => by
      obtain ⟨wt, Fx⟩ := FX k d ot hd ho;exact Fx.deals (G.words1 d (Zi hd)).1
    refine ⟨p, ko, kh, t, hs, outs, ds, xn outs ds ws hc, z7 (ds.map HD.words), rfl, hK7, G, ht7, AD, fun H8 tp pl pas S8 htp hpl PA => ?_, fun H8 tp c lr i x cy S8 ex _ _ _ _ R => ?_⟩
    . refine ⟨_, .tup htp, true, zc4, iteF ⟨tp, rfl, _, .inr (.of htp), rfl, iu rfl ⟨tp, rfl, _, .of htp, _, rfl, rfl, iu (by simp) ⟨by decide, fun du hdu => ?_⟩⟩⟩⟩
      have U1 : Same H8 (upd H8 du (.lst [])) := Same.upd (Same.refl _) hdu;have u1 : upd H8 du (.lst []) du = some (.lst (([] : List Addr).map V.ref)) := zf;generalize upd H8 du (.lst []) = H9 at *;have hL9 := hL7.mono (S8.trans U1);refine ⟨_, .inl (.of hL9.at'), ?_⟩;rw [Za, hL9.len];refine ⟨by omega, by omega, ?_⟩;rw [Zw];refine xr (PvDu a b o p t tp du (yj ns) ds H8) ⟨[], _, _, _, U1, u1, DueAt.nil, rfl⟩ ?_ ?_
      . rintro k σ H10 hk ⟨as, v1, v2, v3, S10, hd10, D10, rfl⟩
        have hL10 := hL7.mono (S8.trans S10);simp only [zd, ze, ↓reduceIte];have lx : (xs.map fun x => V.ref x.t).length = ds.length := by rw [Za, hL7.len]
        refine ⟨_, .of hL10.at', fun p1 hn1 => ?_⟩;rw [iq (by rw [lx]; omega)];have T1 : Same H10 (upd H10 p1 (.lst ((xs.map fun x => V.ref x.t).take k))) := Same.upd (Same.refl _) hn1;have t1 : upd H10 p1 (.lst ((xs.map fun x => V.ref x.t).take k)) p1 = some (.lst ((xs.map fun x => V.ref x.t).take k)) := zf;generalize upd H10 p1 (.lst ((xs.map fun x => V.ref x.t).take k)) = K1 at *;refine ⟨_, .of (hL10.mono T1).at', fun p2 hn2 => ?_⟩;rw [show (k : Int) + 1 = ((k + 1 : Nat) : Int) from rfl, mi (by rw [lx]; omega)];have T2 : Same K1 (upd K1 p2 (.lst ((xs.map fun x => V.ref x.t).drop (k + 1)))) := Same.upd (Same.refl _) hn2;have t2 : upd K1 p2 (.lst ((xs.map fun x => V.ref x.t).drop (k + 1))) p2 = some (.lst ((xs.map fun x => V.ref x.t).drop (k + 1))) := zf;generalize upd K1 p2 (.lst ((xs.map fun x => V.ref x.t).drop (k + 1))) = K2 at *;refine ⟨_, T2 _ _ t1, _, t2, ?_, fun p3 hn3 => ?_⟩
        . rw [Zj, ZP, lx]
          exact Zd (show _ <= 8 by omega) (by decide)
        rw [<- ZY, <- qz];have T3 : Same K2 (upd K2 p3 (.lst ((xs.eraseIdx k).map fun x => V.ref x.t))) := Same.upd (Same.refl _) hn3;have t3 : upd K2 p3 (.lst ((xs.eraseIdx k).map fun x => V.ref x.t)) p3 = some (.lst ((xs.eraseIdx k).map fun x => V.ref x.t)) := zf;generalize upd K2 p3 (.lst ((xs.eraseIdx k).map fun x => V.ref x.t)) = K3 at *;have S83 := T1.trans (T2.trans T3);have hLe := (hL10.mono S83).less t3;refine ⟨p3, _, _, rfl, hLe, by rw [ZS hk]; omega, fun d hd => (G.words1 d (Yb hd)).2, fun H11 rl bs S11 nrl R11 => ⟨rl, rfl, ⟨_, .of R11.lst⟩, ?_⟩⟩;have S1011 := S83.trans S11;have hrd : rl ≠ du := fun e => by rw [e, S83 _ _ hd10] at nrl; cases nrl
        have hsu := j9 ds k;have fk := o6 G k (by omega)
        have few := rj (wss := (ds.eraseIdx k).map HD.words) (by rw [Za, ZS hk]; omega) (fun ws hws => by
          obtain ⟨d, hd, rfl⟩ := Zp.mp hws
          exact (G.words1 d (Yb hd)).2) _ (Zm _)
        rw [Zt] at few;generalize z7 ((ds.eraseIdx k).map HD.words) = os at *;have hdn : H8 du = none := hdu;refine vh (xs := bs.map V.ref) (PvDv a b o p t tp du rl (yj ns) k bs os (dueK ds k) H8) ⟨as, _, _, S10.trans S1011, S1011 _ _ hd10, R11, by simpa using D10.mono S1011, rfl⟩ ?_ ?_ ?_
        . rintro i σ H12 hi ⟨as2, w2, w3, S12, hd12, R12, D12, rfl⟩
          exact .of R12.lst
        . rintro i y σ H12 hy ⟨as2, w2, w3, S12, hd12, R12, D12, rfl⟩
          obtain ⟨c, hc, rfl⟩ := vk hy;have hi : i < os.length := by have := (Zc.mp hc).1; have := R12.tups.len; omega
          have eo : os[i]? = some os[i] := Zb hi;have hc12 := R12.tups.at' i c _ hc eo;simp only [zd, ze, ↓reduceIte];refine ⟨.inl ⟨rfl, _, .of hd12⟩, by decide, fun q1 hq1 => ?_⟩;have S13 : Same H12 (upd H12 q1 (.tup [V.int k, V.ref c])) := Same.upd (Same.refl _) hq1;have h13 : upd H12 q1 (.tup [V.int k, V.ref c]) q1 = some (.tup [V.int k, V.ref c]) := zf;generalize upd H12 q1 (.tup [V.int k, V.ref c]) = H13 at *;have hd13 := S13 _ _ hd12;have D13 := (D12.mono S13).snoc (x := (k, os[i])) h13 (S13 _ _ hc12);have R13 := R12.mono S13;refine ⟨_, hd13, ?_, as2 ++ [q1], _, _, Same.upd (S12.trans S13) hdn, by rw [zf, Zn]; rfl, ?_, ?_, rfl⟩
          . rw [Za, D12.len, Zo, Za, Zj]
            exact Ym (show _ <= 4 * 4096 + 4096 by omega) (by decide)
          . exact ⟨by rw [zr hrd]; exact R13.lst, R13.tups.past hd13⟩
          . rw [Zq, eo, Zn]
            have := D13.past (o := .lst (as2.map V.ref ++ [V.ref q1])) hd13
            simpa using this
        . rintro σ H12 ⟨as2, w2, w3, S12, hd12, R12, D12, rfl⟩
          rw [Za, R12.tups.len, Zt, <- hsu] at D12;exact ⟨as2, _, _, _, S12, hd12, D12, rfl⟩
      . rintro σ H10 ⟨as, v1, v2, v3, S10, hd10, D10, rfl⟩
        simp only [zd, ze, ↓reduceIte];have S810 := S8.trans S10;have PA10 := PA.mono S10;have hmem : ∀ x ∈ dueK ds ds.length, x.1 < ds.length /\ x.2 ∈ z7 ((ds.eraseIdx x.1).map HD.words) := fun x hx => jk hx
        have hfew := o6 G _ (Zm _);generalize dueK ds ds.length = xd at *;refine ⟨_, .of (S10 _ _ htp), _, rfl, pl, rfl, ⟨_, .of (S10 _ _ hpl)⟩, fun dd => ?_⟩;refine yb (xs := pas.map V.ref) (PvEc H10 xd) ⟨Same.refl _, [], rfl, DueAt.nil⟩ ?_ ?_ ?_
        . rintro i ys H11 hi ⟨S11, bs, rfl, D11⟩
          refine ⟨?_, .of (S11 _ _ (S10 _ _ hpl))⟩;rw [Za, D11.len, Zj];exact Zd (show _ <= 4 * 4096 by omega) (by decide)
        . rintro i y ys H11 hy ⟨S11, bs, rfl, D11⟩
          obtain ⟨c, hc, rfl⟩ := vk hy;have hi : i < xd.length := by have := (Zc.mp hc).1; have := PA10.len; omega
          have ex : xd[i]? = some xd[i] := Zb hi;obtain ⟨cc, gs, pp, pc, Gt⟩ := PA10.at' i c _ hc ex;obtain ⟨ql, rl, z1, z2, z3⟩ := pp.ex;have z1' := S11 _ _ z1;simp only [zd, ze, ↓reduceIte];refine ⟨_, .of z1', _, rfl, _, .of z1', _, rfl, by decide, fun tq htq => ?_⟩;have S12 : Same H11 (upd H11 tq (.tup [V.int (xd[i]).1, V.ref cc])) := Same.upd (Same.refl _) htq;refine ⟨S11.trans S12, bs ++ [tq], by simp, ?_⟩;rw [Zq, ex];exact (D11.mono S12).snoc zf (S12 _ _ (S11 _ _ pc))
        . rintro ys H11 ⟨S11, bs, rfl, D11⟩ l2 hl2
          rw [Za, PA10.len, Zt] at D11;have S12 : Same H11 (upd H11 l2 (.lst (bs.map V.ref))) := Same.upd (Same.refl _) hl2;have h12 : upd H11 l2 (.lst (bs.map V.ref)) l2 = some (.lst (bs.map V.ref)) := zf;generalize upd H11 l2 (.lst (bs.map V.ref)) = H12 at *;have S1012 := S11.trans S12;refine ⟨.ls (xd.map dueT), .ls (xd.map dueT), trivial, TrAt.ls (.of h12) (D11.mono S12).trs, TrAt.ls (.of (S1012 _ _ hd10)) (D10.mono S1012).trs, c0 _, c0 _, ?_⟩;rw [zgp (zeg xd)];have S812 := S810.trans S1012;have PA12 := PA10.mono S1012;have hpl12 := S1012 _ _ (S10 _ _ hpl);refine iu (by simp) ⟨_, .of (S1012 _ _ (S10 _ _ htp)), _, rfl, pl, rfl, ⟨_, .of hpl12⟩, ?_⟩;refine vh (xs := pas.map V.ref) (PvLs a b o p t tp du (yj ns) v1 v2 H12) ⟨Same.refl _, _, rfl⟩ ?_ ?_ ?_
          . rintro i σ H13 hi ⟨S13, u3, rfl⟩
            exact .of (S13 _ _ hpl12)
          . rintro i y σ H13 hy ⟨S13, u3, rfl⟩
            obtain ⟨c, hcx, rfl⟩ := vk hy;have hi : i < xd.length := by have := (Zc.mp hcx).1; have := PA12.len; omega
            have ex : xd[i]? = some xd[i] := Zb hi;obtain ⟨m1, m2⟩ := hmem _ (Zl hi);obtain ⟨cc, gs, pp, pc, Gt⟩ := (PA12.mono S13).at' i c _ hcx ex;obtain ⟨ql, rl, z1, z2, z3⟩ := pp.ex;generalize xd[i] = x at *;obtain ⟨k, ot⟩ := x;have hd : ds[k]? = some ds[k] := Zb m1;have hmd := Zl m1;have h0 := (G.words1 _ hmd).1;have h8w := (G.words1 _ hmd).2;have S813 := S812.trans S13;rw [o5 hd, ny hd] at Gt;obtain ⟨wt, Fx⟩ := FX k _ ot hd m2;have DL := Fx.deals h0;generalize ds[k] = d at *;simp only [zd, ze, ↓reduceIte];refine ⟨_, .of z1, _, rfl, _, .of z1, _, rfl, ?_⟩;refine ⟨b, o, t, cc, xs, outs, ds, xn outs ds ws hc, z7 (ds.map HD.words), ot, k, d, rfl, hL7.mono S813, G, S813 _ _ ho7, S813 _ _ ht7, hd, pc, DL, fun H14 g ls S14 hg14 I14 => ?_⟩;have lps : (putP (xn outs ds ws hc) outs ot k d.words).length = d.words.length := by rw [putP, Za]
            have GR : GrA H14 g (colP d (putP (xn outs ds ws hc) outs ot k d.words)) d.words.length := ⟨⟨ls, hg14, I14⟩, by rw [colP, Za, G.rows d hmd], fun r hr => by
              obtain ⟨r', _, rfl⟩ := Zp.mp hr
              rw [Za, lps]⟩
            have lg := Gt.len;refine ⟨_, .of (S14 _ _ z1), _, rfl, g, ql, _, _, gs.map fun e => e.1, rfl, GR, h8w, S14 _ _ z2, by rw [Za]; exact lg, fun t ht => ?_, Gt.hon, true, rfl, iteF ⟨S13.trans S14, _, rfl⟩⟩;rw [d6 (by omega)];exact Gt.le t ht
          . rintro σ H13 ⟨S13, u3, rfl⟩
            simp only [zd, ze, ↓reduceIte];exact q H13
    . exfalso
      obtain ⟨m1, m2⟩ := jk (Zi ex);obtain ⟨k, ot⟩ := x;have hd : ds[k]? = some ds[k] := Zb m1;obtain ⟨wt, Fx⟩ := FX k _ ot hd m2;rw [o5 hd, ny hd] at R;exact zhq Fx.w1 R (Fx.hon (G.words1 _ (Zl m1)).1)
theorem law_ok (B : Bt mg) (C : Ct K mg a) (d_is_whole : zc K mg "is_whole" om ["thing"]) (d_is_bounded : zc K mg "is_bounded" se ["thing"]) (d_is_grid_row : zc K mg "is_grid_row" tj ["thing", "width"]) (d_turn : zc K mg "turn" d4 ["grid", "s", "t"]) (d_gain : zc K mg "gain" dh ["grid", "pays", "t", "s"]) (d_first_gain : zc K mg "first_gain" sw ["grid", "pays"]) (d_is_name : zc K mg "is_name" mh ["thing"]) (d_are_names : zc K mg "are_names" qf ["thing", "most"]) (d_are_worths : zc K mg "are_worths" s9 ["thing", "height", "width"]) (d_is_hand : zc K mg "is_hand" my ["thing", "width"]) (d_name_of : zc K mg "name_of" mf ["hand"]) (d_names_of : zc K mg "names_of" p0 ["hands"]) (d_words_of_hand : zc K mg "words_of_hand" w4 ["hand"]) (d_worths_of_hand : zc K mg "worths_of_hand" wm ["hand"]) (d_worths_by : zc K mg "worths_by" qh ["hand", "word"]) (d_count_of_rows : zc K mg "count_of_rows" ub ["hands"]) (d_makes_house : zc K mg "makes_house" u8 ["outcomes", "hands"]) (d_kept_hand : zc K mg "kept_hand" qi ["hand"]) (d_house_of : zc K mg "house_of" p9 ["outcomes", "hands"]) (d_outcomes_of : zc K mg "outcomes_of" u9 ["house"]) (d_hands_of : zc K mg "hands_of" pk ["house"]) (d_with_each : zc K mg "with_each" qc ["rows", "words"]) (d_rows_over : zc K mg "rows_over" r6 ["hands"]) (d_rows_of : zc K mg "rows_of" mm ["house"]) (d_without : zc K mg "without" n0 ["things", "k"]) (d_others_of : zc K mg "others_of" qo ["house", "k"]) (d_row_with : zc K mg "row_with" oj ["others", "k", "word"]) (d_total_of : zc K mg "total_of" oq ["walk"]) (d_words_of : zc K mg "words_of" oa ["walk"]) (d_walks_of_one_turn : zc K mg "walks_of_one_turn" wv ["grid", "s"]) (d_least_to : zc K mg "least_to" sh ["grid", "walks", "t"]) (d_lengthened : zc K mg "lengthened" uc ["grid", "walks"]) (d_after_a_turn : zc K mg "after_a_turn" uo ["grid", "totals", "t"]) (d_has_honest : zc K mg "has_honest" sj ["grid"]) (d_closed_below_zero : zc K mg "closed_below_zero" ww ["rows"]) (d_ring : zc K mg "ring" eg ["grid"]) (d_refuse_ring : zc K mg "refuse_ring" u6 ["grid"]) (d_lesser : zc K mg "lesser" je ["walk", "longer"]) (d_least_roads : zc K mg "least_roads" tm ["grid", "walks"]) (d_greatest : zc K mg "greatest" ou ["grid"]) (d_dealt_places : zc K mg "dealt_places" uv ["house", "table", "k", "others"]) (d_worths_at : zc K mg "worths_at" qj ["worths", "places"]) (d_grid_of : zc K mg "grid_of" mn ["house", "table", "k", "others"]) (d_grids_of : zc K mg "grids_of" on ["house", "table"]) (d_paper : zc K mg "paper" ik ["k", "others", "grid"]) (d_verdict : zc K mg "verdict" mr ["house", "table"]) (d_are_weights : zc K mg "are_weights" u7 ["house", "thing"]) (d_are_handicaps : zc K mg "are_handicaps" v7 ["house", "thing"]) (d_refuse_weights : zc K mg "refuse_weights" vi ["house", "weights", "handicaps"]) (d_part_of : zc K mg "part_of" md ["hand", "weight", "word"]) (d_parts_of : zc K mg "parts_of" px ["house", "weights", "row"]) (d_scores : zc K mg "scores" kz ["house", "weights", "handicaps", "row"]) (d_best_place : zc K mg "best_place" sk ["totals"]) (d_best_outcome : zc K mg "best_outcome" uw ["house", "weights", "handicaps", "row"]) (d_best_table : zc K mg "best_table" sf ["house", "weights", "handicaps"]) (d_law_cell : zc K mg "_law_cell" p7 ["script", "k"]) (d_law_number : zc K mg "_law_number" ra ["cell", "top"]) (d_law_names : zc K mg "_law_names" yh ["cell", "many"]) (d_law_hands : zc K mg "_law_hands" qe ["script", "places", "top"]) (d_law_rows : zc K mg "_law_rows" oo ["hands"]) (d_law_weights : zc K mg "_law_weights" tf ["script", "many"]) (d_law_handicaps : zc K mg "_law_handicaps" v9 ["script", "places"]) (d_law_column : zc K mg "_law_column" su ["hands", "outcomes", "table", "k", "others"]) (d_law_fits : zc K mg "_law_fits" oi ["grid", "pays"]) (base : Heap) {f : Addr} {fd : FuncData} (F : Fun K "law" "law" i0 f fd) : FnOk P w K mg base CX0 10 f fd ["script"] (zec K) := by
  have c1 := yr (P := P) (w := w) (base := base) B d_law_cell;have c2 := wq (P := P) (w := w) (base := base) d_law_number;have c3 := vy (P := P) (w := w) (base := base) B d_law_names;have n1 := qr (P := P) (w := w) (base := base) B d_is_name;have n2 := vz B n1 d_are_names;have n3 := wb B (nt B (ku (P := P) (w := w) (base := base) B d_is_whole) d_is_bounded) d_is_grid_row;have n4 := o7 B n3 d_are_worths;have n5 := j7 B n1 n2 n4 d_is_hand;have n6 := qt (P := P) (w := w) (base := base) d_name_of;have n7 := yl (P := P) (w := w) (base := base) d_words_of_hand;have n8 := xk (P := P) (w := w) (base := base) d_worths_of_hand;have n9 := q8 B n2 n5 (kc n6 d_names_of) (sg B n7 d_count_of_rows) d_makes_house;have n10 := zel B C n9 (zca B n6 n7 n8 d_kept_hand) d_house_of;have m1 := zer (P := P) (w := w) (base := base) d_hands_of;have m0 := ah (P := P) (w := w) (base := base) d_outcomes_of;have mw := dv (P := P) (w := w) (base := base) d_words_of_hand;have mv := fh (P := P) (w := w) (base := base) d_worths_of_hand;have m2 := jz (m7 mw mv d_worths_by) d_part_of;have m3 := ji B m1 m2 d_parts_of;have m4 := tu B C (pi B m1 n3 d_are_weights) (sx B m0 n3 d_are_handicaps) d_refuse_weights;have mo := u0 B (m9 (P := P) (w := w) (base := base) B d_with_each) mw d_rows_over;have m5 := j6 B mo m1 d_rows_of;have mb := o4 (P := P) (w := w) (base := base) B d_best_place;have ms := gz B C m4 m3 d_scores;have m6 := rf B m0 mb ms d_best_outcome;have t1 := ic B (rk B (kq B d_row_with) mw m1 m0 d_dealt_places) (m8 d_worths_at) mv m1 d_grid_of;have c7 := uj (P := P) (w := w) (base := base) d_turn;have c8 := xj (P := P) (w := w) (base := base) d_total_of;have c9 := sm (P := P) (w := w) (base := base) d_words_of;have c14 := j3 B (ng B (rm B c7 d_after_a_turn) (nv B (zal c7 d_gain) d_first_gain) d_has_honest) (v0 B c7 d_walks_of_one_turn) (ug B (rc B c7 c8 d_least_to) d_lengthened) (v6 B c8 c9 d_closed_below_zero) d_ring;have c18 := qw B (zbg B (zd3 B c7 c8 d_least_to) d_lengthened) (g0 c8 d_lesser) d_least_roads;have c19 := kx B C (qx B C c14 d_refuse_ring) c18 c8 c9 d_greatest;have v1 := ky B m1 t1 (lc B mo m1 (j8 B d_without) d_others_of) d_grids_of
  exact law_fn B c1 c3 (mz B c1 c2 c3 d_law_hands) n10 (q9 B c1 c2 d_law_weights) (si B c1 c2 d_law_handicaps) (nj B m5 m6 d_best_table) (km (P := P) (w := w) (base := base) d_law_rows)
    (oy B d_law_column) (ju B v1 c14 (d8 B c19 d_paper) d_verdict) (kn B d_law_fits) F
end
end Mine
namespace Tp
open PySem PySem.W PySem.Calls PyProof.Rows
noncomputable section
abbrev pr : Program := PySem.Challenge.pw_trueword_k56_best_is_payable
def en (P : Params) (x : Str) (t : Nat) (v : Value) : DictEntry := ⟨PyData.keyHash P x, .str x t, v⟩
abbrev fn (i : Nat) (name qual : Str) (dV kV doc pm : Value) (an : Option Addr) (cdv ct : Value) : FuncData := fnOf name qual (L2.t8 (Mine.top i)) (L2.xm (Mine.top i)) (L2.zi (Mine.top i)) dV kV doc pm an cdv ct
abbrev fx (i : Nat) (name qual : Str) (g : Addr) (dV kV doc pm : Value) (an : Option Addr) (cdv ct : Value) (b : Addr) : FuncData := ⟨name, qual, L2.t8 (Mine.top i), .stmts (L2.xm (Mine.top i)), L2.zi (Mine.top i), g, [], dV, kV, doc, pm, an, cdv, ct, b⟩
def oE : Obj := ⟨.type "tuple", none, .seq #[] 0, #[]⟩
def oF : Obj := ⟨.none, none, .fields #[], #[]⟩
def tl : Nat -> List Str -> List Value
  | _, [] => []
  | t, x :: r => .str x t :: tl (t + 1) r
def ts (t : Nat) (xs : List Str) : Obj := ⟨.type "tuple", none, .seq (tl t xs).toArray 0, #[]⟩
def fo (i : Nat) (n m : Str) (t c : Nat) : Obj := ⟨.type "function", none, .func (fn i n n .none .none .none (.str m t) none (.ref c) .none), #[]⟩
def xo (i : Nat) (n : Str) : Obj := ⟨.none, none, .func (fx i n n 0 .none .none .none .none none .none .none 0), #[]⟩
def co (n : Str) (t l c f a : Nat) (b : Bool) (e : Nat) (v1 v2 v3 v4 : Value) (k : Nat) : Obj := ⟨.type "code", none, .fields #[.str n t, .str n (t + 1), .str "/claim/cut.py" (t + 2), .int l 0, .int c 0, .int 0 0, .int 0 0, .int f 0, .ref a, .bool b, .int 181 0, .ref e, v1, v2, v3, v4, .int k 0, .int l 0, .str "/claim/cut.py" (k + 1)], #[]⟩
def ia (t : BT) : Nat -> List Obj -> BT
  | _, [] => t
  | n, o :: r => ia (t.ins n o) (n + 1) r
def lf (P : Params) : Life := (boot_heap P).life
def env : Env := { scope := pr.main.scope, locals := mainNs, globals := mainNs, cells := [], code := (.ref 13), frame := some 14 }
def cd : Code := .body (behindTheImports pr) env
def qp : Pos := ⟨0, 0, 0, 0⟩
def o13 : Obj := (co "<module>" 182 1 0 0 11 false 12 .none .none .none .none 185)
def ha (P : Params) : Heap := ⟨⟨[boot_o_0 P, boot_o_1 P, boot_o_2 P, boot_o_3 P, boot_o_4 P, boot_o_5 P, boot_o_6 P, boot_o_7 P, boot_o_8 P, boot_o_9 P, boot_o_10 P, oE, oF, o13, ⟨(.type "frame"), none, .plain, #[(some (.ref 13)), (some (.ref 3)), (some (.ref 3)), none, (some (.str "__main__" 164)), none, (some (.ref 0))]⟩]⟩, lf P⟩
def t0 (P : Params) : BT := (.node (boot_o_0 P) (.node (boot_o_1 P) (.node (boot_o_3 P) (.node (boot_o_7 P) .nil .nil) (.node (oE) .nil .nil)) (.node (boot_o_5 P) (.node (boot_o_9 P) .nil .nil) (.node (o13) .nil .nil))) (.node (boot_o_2 P) (.node (boot_o_4 P) (.node (boot_o_8 P) .nil .nil) (.node (oF) .nil .nil)) (.node (boot_o_6 P) (.node (boot_o_10 P) .nil .nil) (.node (⟨(.type "frame"), none, .plain, #[(some (.ref 13)), (some (.ref 3)), (some (.ref 3)), none, (some (.str "__main__" 164)), none, (some (.ref 0))]⟩) .nil .nil))))
def o3 (P : Params) : Obj := ⟨(.type "dict"), none, (.dict #[en P "__name__" 165 (.str "trueword.houses" 309), en P "__doc__" 166 .none, en P "__package__" 167 .none, en P "__loader__" 168 (.builtin "__main__.__loader__#opaque"), en P "__spec__" 169 .none, en P "__annotations__" 170 (.ref 6), en P "__builtins__" 171 (.ref 4), en P "__file__" 173 (.str "/claim/cut.py" 172), en P "__cached__" 174 .none, en P "TrueError" 206 (.ref 24), en P "NoPays" 222 (.ref 37), en P "NoHouse" 238 (.ref 49), en P "NoWeight" 254 (.ref 61), en P "MOST_WORDS" 258 (.int (8) 257), en P "is_whole" 265 (.ref 70), en P "is_bounded" 272 (.ref 77), en P "is_grid_row" 278 (.ref 82), en P "turn" 287 (.ref 89), en P "gain" 297 (.ref 96), en P "first_gain" 308 (.ref 103), en P "MOST_LETTERS" 312 (.int (8) 311), en P "MOST_OUTCOMES" 314 (.int (8) 313), en P "MOST_HANDS" 316 (.int (4) 315), en P "MOST_ROWS" 318 (.int (256) 317), en P "is_name" 324 (.ref 108), en P "are_names" 330 (.ref 113), en P "are_worths" 336 (.ref 118), en P "is_hand" 344 (.ref 125), en P "name_of" 351 (.ref 132), en P "names_of" 357 (.ref 137), en P "words_of_hand" 364 (.ref 144), en P "worths_of_hand" 371 (.ref 151), en P "worths_by" 379 (.ref 158), en P "count_of_rows" 388 (.ref 165), en P "makes_house" 394 (.ref 170), en P "kept_hand" 400 (.ref 175), en P "house_of" 406 (.ref 180), en P "outcomes_of" 413 (.ref 187), en P "hands_of" 420 (.ref 194)] 39), #[]⟩
def o17 (P : Params) : Obj := ⟨(.type "dict"), none, (.dict #[en P "__module__" 196 (.str "trueword.errors" 187), en P "__qualname__" 198 (.str "TrueError" 197), en P "__firstlineno__" 200 (.int (2) 199), en P "__static_attributes__" 201 (.ref 22)] 4), #[]⟩
def o20 : Obj := (co "TrueError" 191 2 0 0 18 false 19 .none .none .none .none 194)
def o23 (P : Params) : Obj := ⟨(.type "dict"), none, (.dict #[en P "__module__" 196 (.str "trueword.errors" 187), en P "__firstlineno__" 200 (.int (2) 199), en P "__static_attributes__" 201 (.ref 22), en P "__weakref__" 203 (.ref 25), en P "__doc__" 204 .none] 3), #[]⟩
def o24 : Obj := ⟨(.type "type"), none, (.cls ⟨"TrueError", [(.type "ValueError")], [(.ref 24), (.type "ValueError"), (.type "Exception"), (.type "BaseException"), (.type "object")], 23, "TrueError", true, [], [(.ref 37), (.ref 49), (.ref 61)], false, none, false⟩), #[(some (.ref 15)), none, (some (.str "TrueError" 189)), (some (.str "TrueError" 197)), (some (.builtin "ValueError.__new__")), (some (.bool true))]⟩
def o30 (P : Params) : Obj := ⟨(.type "dict"), none, (.dict #[en P "__module__" 214 (.str "trueword.errors" 187), en P "__qualname__" 216 (.str "NoPays" 215), en P "__firstlineno__" 218 (.int (4) 217), en P "__static_attributes__" 219 (.ref 35)] 4), #[]⟩
def o33 : Obj := (co "NoPays" 209 4 0 0 31 false 32 .none .none .none .none 212)
def o36 (P : Params) : Obj := ⟨(.type "dict"), none, (.dict #[en P "__module__" 214 (.str "trueword.errors" 187), en P "__firstlineno__" 218 (.int (4) 217), en P "__static_attributes__" 219 (.ref 35), en P "__doc__" 220 .none] 2), #[]⟩
def o37 : Obj := ⟨(.type "type"), none, (.cls ⟨"NoPays", [(.ref 24)], [(.ref 37), (.ref 24), (.type "ValueError"), (.type "Exception"), (.type "BaseException"), (.type "object")], 36, "NoPays", true, [], [], false, none, false⟩), #[(some (.ref 28)), none, (some (.str "NoPays" 207)), (some (.str "NoPays" 215)), (some (.builtin "ValueError.__new__")), (some (.bool true))]⟩
def o42 (P : Params) : Obj := ⟨(.type "dict"), none, (.dict #[en P "__module__" 230 (.str "trueword.errors" 187), en P "__qualname__" 232 (.str "NoHouse" 231), en P "__firstlineno__" 234 (.int (6) 233), en P "__static_attributes__" 235 (.ref 47)] 4), #[]⟩
def o45 : Obj := (co "NoHouse" 225 6 0 0 43 false 44 .none .none .none .none 228)
def o48 (P : Params) : Obj := ⟨(.type "dict"), none, (.dict #[en P "__module__" 230 (.str "trueword.errors" 187), en P "__firstlineno__" 234 (.int (6) 233), en P "__static_attributes__" 235 (.ref 47), en P "__doc__" 236 .none] 2), #[]⟩
def o49 : Obj := ⟨(.type "type"), none, (.cls ⟨"NoHouse", [(.ref 24)], [(.ref 49), (.ref 24), (.type "ValueError"), (.type "Exception"), (.type "BaseException"), (.type "object")], 48, "NoHouse", true, [], [], false, none, false⟩), #[(some (.ref 40)), none, (some (.str "NoHouse" 223)), (some (.str "NoHouse" 231)), (some (.builtin "ValueError.__new__")), (some (.bool true))]⟩
def o54 (P : Params) : Obj := ⟨(.type "dict"), none, (.dict #[en P "__module__" 246 (.str "trueword.errors" 187), en P "__qualname__" 248 (.str "NoWeight" 247), en P "__firstlineno__" 250 (.int (8) 249), en P "__static_attributes__" 251 (.ref 59)] 4), #[]⟩
def o57 : Obj := (co "NoWeight" 241 8 0 0 55 false 56 .none .none .none .none 244)
def o60 (P : Params) : Obj := ⟨(.type "dict"), none, (.dict #[en P "__module__" 246 (.str "trueword.errors" 187), en P "__firstlineno__" 250 (.int (8) 249), en P "__static_attributes__" 251 (.ref 59), en P "__doc__" 252 .none] 2), #[]⟩
def o61 : Obj := ⟨(.type "type"), none, (.cls ⟨"NoWeight", [(.ref 24)], [(.ref 61), (.ref 24), (.type "ValueError"), (.type "Exception"), (.type "BaseException"), (.type "object")], 60, "NoWeight", true, [], [], false, none, false⟩), #[(some (.ref 52)), none, (some (.str "NoWeight" 239)), (some (.str "NoWeight" 247)), (some (.builtin "ValueError.__new__")), (some (.bool true))]⟩
def o69 : Obj := (co "is_whole" 259 12 1 3 64 true 65 .none (.ref 66) (.ref 67) (.ref 68) 263)
def o70 : Obj := (fo 7 "is_whole" "trueword.grids" 255 69)
def o76 : Obj := (co "is_bounded" 266 14 1 3 71 true 72 .none (.ref 73) (.ref 74) (.ref 75) 270)
def o77 : Obj := (fo 8 "is_bounded" "trueword.grids" 255 76)
def o81 : Obj := (co "is_grid_row" 273 16 2 3 78 true 79 .none .none .none (.ref 80) 276)
def o82 : Obj := (fo 9 "is_grid_row" "trueword.grids" 255 81)
def o88 : Obj := (co "turn" 279 20 3 3 83 true 84 .none (.ref 85) (.ref 86) (.ref 87) 285)
def o89 : Obj := (fo 10 "turn" "trueword.grids" 255 88)
def o95 : Obj := (co "gain" 288 22 4 3 90 true 91 .none (.ref 92) (.ref 93) (.ref 94) 295)
def o96 : Obj := (fo 11 "gain" "trueword.grids" 255 95)
def o102 : Obj := (co "first_gain" 298 24 2 3 97 true 98 .none (.ref 99) (.ref 100) (.ref 101) 306)
def o103 : Obj := (fo 12 "first_gain" "trueword.grids" 255 102)
def o107 : Obj := (co "is_name" 319 36 1 3 104 true 105 .none .none .none (.ref 106) 322)
def o108 : Obj := (fo 18 "is_name" "trueword.houses" 309 107)
def o112 : Obj := (co "are_names" 325 40 2 3 109 true 110 .none .none .none (.ref 111) 328)
def o113 : Obj := (fo 19 "are_names" "trueword.houses" 309 112)
def o117 : Obj := (co "are_worths" 331 44 3 3 114 true 115 .none .none .none (.ref 116) 334)
def o118 : Obj := (fo 20 "are_worths" "trueword.houses" 309 117)
def o124 : Obj := (co "is_hand" 337 48 2 3 119 true 120 .none (.ref 121) (.ref 122) (.ref 123) 342)
def o125 : Obj := (fo 21 "is_hand" "trueword.houses" 309 124)
def o131 : Obj := (co "name_of" 345 52 1 3 126 true 127 .none (.ref 128) (.ref 129) (.ref 130) 349)
def o132 : Obj := (fo 22 "name_of" "trueword.houses" 309 131)
def o136 : Obj := (co "names_of" 352 54 1 3 133 true 134 .none .none .none (.ref 135) 355)
def o137 : Obj := (fo 23 "names_of" "trueword.houses" 309 136)
def o143 : Obj := (co "words_of_hand" 358 56 1 3 138 true 139 .none (.ref 140) (.ref 141) (.ref 142) 362)
def o144 : Obj := (fo 24 "words_of_hand" "trueword.houses" 309 143)
def o150 : Obj := (co "worths_of_hand" 365 58 1 3 145 true 146 .none (.ref 147) (.ref 148) (.ref 149) 369)
def o151 : Obj := (fo 25 "worths_of_hand" "trueword.houses" 309 150)
def o157 : Obj := (co "worths_by" 372 60 2 3 152 true 153 .none (.ref 154) (.ref 155) (.ref 156) 377)
def o158 : Obj := (fo 26 "worths_by" "trueword.houses" 309 157)
def o164 : Obj := (co "count_of_rows" 380 62 1 3 159 true 160 .none (.ref 161) (.ref 162) (.ref 163) 386)
def o165 : Obj := (fo 27 "count_of_rows" "trueword.houses" 309 164)
def o169 : Obj := (co "makes_house" 389 67 2 3 166 true 167 .none .none .none (.ref 168) 392)
def o170 : Obj := (fo 28 "makes_house" "trueword.houses" 309 169)
def o174 : Obj := (co "kept_hand" 395 73 1 3 171 true 172 .none .none .none (.ref 173) 398)
def o175 : Obj := (fo 29 "kept_hand" "trueword.houses" 309 174)
def o179 : Obj := (co "house_of" 401 76 2 3 176 true 177 .none .none .none (.ref 178) 404)
def o180 : Obj := (fo 30 "house_of" "trueword.houses" 309 179)
def o186 : Obj := (co "outcomes_of" 407 80 1 3 181 true 182 .none (.ref 183) (.ref 184) (.ref 185) 411)
def o187 : Obj := (fo 31 "outcomes_of" "trueword.houses" 309 186)
def o193 : Obj := (co "hands_of" 414 82 1 3 188 true 189 .none (.ref 190) (.ref 191) (.ref 192) 418)
def o194 : Obj := (fo 32 "hands_of" "trueword.houses" 309 193)
def t1 (P : Params) : BT := ia (((t0 P).set 3 fun _ => o3 P).set 12 fun _ => ⟨.none, none, (.fields #[(.int (2) 0), (.int (0) 0), (.ref 20), (.int (4) 0), (.int (0) 0), (.ref 33), (.int (6) 0), (.int (0) 0), (.ref 45), (.int (8) 0), (.int (0) 0), (.ref 57), (.int (12) 0), (.int (0) 0), (.ref 69), (.int (14) 0), (.int (0) 0), (.ref 76), (.int (16) 0), (.int (0) 0), (.ref 81), (.int (20) 0), (.int (0) 0), (.ref 88), (.int (22) 0), (.int (0) 0), (.ref 95), (.int (24) 0), (.int (0) 0), (.ref 102), (.int (36) 0), (.int (0) 0), (.ref 107), (.int (40) 0), (.int (0) 0), (.ref 112), (.int (44) 0), (.int (0) 0), (.ref 117), (.int (48) 0), (.int (0) 0), (.ref 124), (.int (52) 0), (.int (0) 0), (.ref 131), (.int (54) 0), (.int (0) 0), (.ref 136), (.int (56) 0), (.int (0) 0), (.ref 143), (.int (58) 0), (.int (0) 0), (.ref 150), (.int (60) 0), (.int (0) 0), (.ref 157), (.int (62) 0), (.int (0) 0), (.ref 164), (.int (67) 0), (.int (0) 0), (.ref 169), (.int (73) 0), (.int (0) 0), (.ref 174), (.int (76) 0), (.int (0) 0), (.ref 179), (.int (80) 0), (.int (0) 0), (.ref 186), (.int (82) 0), (.int (0) 0), (.ref 193)]), #[]⟩) 15 [⟨(.type "tuple"), none, (.seq #[(.type "ValueError")] 0), #[]⟩, ⟨(.type "builtin_function_or_method"), none, (.fields #[(.builtin "type.__prepare__"), (.type "type")]), #[]⟩, o17 P, oE, oF, o20, ⟨(.type "frame"), none, .plain, #[(some (.ref 20)), (some (.ref 3)), (some (.ref 17)), none, (some (.str "trueword.errors" 187)), none, (some (.ref 0))]⟩, oE, o23 P, o24, ⟨(.type "getset_descriptor"), none, (.fields #[(.str "__weakref__" 202), (.ref 24), (.builtin "ExceptionGroup.__weakref__"), .none]), #[]⟩, ⟨(.type "super"), none, (.fields #[(.ref 24), (.ref 24), (.ref 24)]), #[]⟩, ⟨(.type "builtin_function_or_method"), none, (.fields #[(.builtin "object.__init_subclass__"), (.ref 24)]), #[]⟩, ⟨(.type "tuple"), none, (.seq #[(.ref 24)] 0), #[]⟩, ⟨(.type "builtin_function_or_method"), none, (.fields #[(.builtin "type.__prepare__"), (.type "type")]), #[]⟩, o30 P, oE, oF, o33, ⟨(.type "frame"), none, .plain, #[(some (.ref 33)), (some (.ref 3)), (some (.ref 30)), none, (some (.str "trueword.errors" 187)), none, (some (.ref 0))]⟩, oE, o36 P, o37, ⟨(.type "super"), none, (.fields #[(.ref 37), (.ref 37), (.ref 37)]), #[]⟩, ⟨(.type "builtin_function_or_method"), none, (.fields #[(.builtin "object.__init_subclass__"), (.ref 37)]), #[]⟩, ⟨(.type "tuple"), none, (.seq #[(.ref 24)] 0), #[]⟩, ⟨(.type "builtin_function_or_method"), none, (.fields #[(.builtin "type.__prepare__"), (.type "type")]), #[]⟩, o42 P, oE, oF, o45, ⟨(.type "frame"), none, .plain, #[(some (.ref 45)), (some (.ref 3)), (some (.ref 42)), none, (some (.str "trueword.errors" 187)), none, (some (.ref 0))]⟩, oE, o48 P, o49, ⟨(.type "super"), none, (.fields #[(.ref 49), (.ref 49), (.ref 49)]), #[]⟩, ⟨(.type "builtin_function_or_method"), none, (.fields #[(.builtin "object.__init_subclass__"), (.ref 49)]), #[]⟩, ⟨(.type "tuple"), none, (.seq #[(.ref 24)] 0), #[]⟩, ⟨(.type "builtin_function_or_method"), none, (.fields #[(.builtin "type.__prepare__"), (.type "type")]), #[]⟩, o54 P, oE, oF, o57, ⟨(.type "frame"), none, .plain, #[(some (.ref 57)), (some (.ref 3)), (some (.ref 54)), none, (some (.str "trueword.errors" 187)), none, (some (.ref 0))]⟩, oE, o60 P, o61, ⟨(.type "super"), none, (.fields #[(.ref 61), (.ref 61), (.ref 61)]), #[]⟩, ⟨(.type "builtin_function_or_method"), none, (.fields #[(.builtin "object.__init_subclass__"), (.ref 61)]), #[]⟩, oE, oF, (ts 262 ["thing"]), oE, (xo 7 "is_whole"), o69, o70, oE, oF, (ts 269 ["thing"]), oE, (xo 8 "is_bounded"), o76, o77, oE, oF, (xo 9 "is_grid_row"), o81, o82, oE, oF, (ts 282 ["grid", "s", "t"]), oE, (xo 10 "turn"), o88, o89, oE, oF, (ts 291 ["grid", "pays", "t", "s"]), oE, (xo 11 "gain"), o95, o96, oE, oF, (ts 301 ["grid", "pays", "t", "s", "more"]), oE, (xo 12 "first_gain"), o102, o103, oE, oF, (xo 18 "is_name"), o107, o108, oE, oF, (xo 19 "are_names"), o112, o113, oE, oF, (xo 20 "are_worths"), o117, o118, oE, oF, (ts 340 ["thing", "width"]), oE, (xo 21 "is_hand"), o124, o125, oE, oF, (ts 348 ["hand"]), oE, (xo 22 "name_of"), o131, o132, oE, oF, (xo 23 "names_of"), o136, o137, oE, oF, (ts 361 ["hand"]), oE, (xo 24 "words_of_hand"), o143, o144, oE, oF, (ts 368 ["hand"]), oE, (xo 25 "worths_of_hand"), o150, o151, oE, oF, (ts 375 ["hand", "word"]), oE, (xo 26 "worths_by"), o157, o158, oE, oF, (ts 383 ["hands", "count", "hand"]), oE, (xo 27 "count_of_rows"), o164, o165, oE, oF, (xo 28 "makes_house"), o169, o170, oE, oF, (xo 29 "kept_hand"), o174, o175, oE, oF, (xo 30 "house_of"), o179, o180, oE, oF, (ts 410 ["house"]), oE, (xo 31 "outcomes_of"), o186, o187, oE, oF, (ts 417 ["house"]), oE, (xo 32 "hands_of"), o193, o194]
def o3_1 (P : Params) : Obj := ⟨(.type "dict"), none, (.dict #[en P "__name__" 165 (.str "law_trueword_k56_best_is_payable" 677), en P "__doc__" 166 .none, en P "__package__" 167 .none, en P "__loader__" 168 (.builtin "__main__.__loader__#opaque"), en P "__spec__" 169 .none, en P "__annotations__" 170 (.ref 6), en P "__builtins__" 171 (.ref 4), en P "__file__" 173 (.str "/claim/cut.py" 172), en P "__cached__" 174 .none, en P "TrueError" 206 (.ref 24), en P "NoPays" 222 (.ref 37), en P "NoHouse" 238 (.ref 49), en P "NoWeight" 254 (.ref 61), en P "MOST_WORDS" 258 (.int (8) 257), en P "is_whole" 265 (.ref 70), en P "is_bounded" 272 (.ref 77), en P "is_grid_row" 278 (.ref 82), en P "turn" 287 (.ref 89), en P "gain" 297 (.ref 96), en P "first_gain" 308 (.ref 103), en P "MOST_LETTERS" 312 (.int (8) 311), en P "MOST_OUTCOMES" 314 (.int (8) 313), en P "MOST_HANDS" 316 (.int (4) 315), en P "MOST_ROWS" 318 (.int (256) 317), en P "is_name" 324 (.ref 108), en P "are_names" 330 (.ref 113), en P "are_worths" 336 (.ref 118), en P "is_hand" 344 (.ref 125), en P "name_of" 351 (.ref 132), en P "names_of" 357 (.ref 137), en P "words_of_hand" 364 (.ref 144), en P "worths_of_hand" 371 (.ref 151), en P "worths_by" 379 (.ref 158), en P "count_of_rows" 388 (.ref 165), en P "makes_house" 394 (.ref 170), en P "kept_hand" 400 (.ref 175), en P "house_of" 406 (.ref 180), en P "outcomes_of" 413 (.ref 187), en P "hands_of" 420 (.ref 194), en P "with_each" 426 (.ref 199), en P "rows_over" 435 (.ref 206), en P "rows_of" 442 (.ref 213), en P "without" 450 (.ref 220), en P "others_of" 458 (.ref 227), en P "row_with" 467 (.ref 234), en P "total_of" 476 (.ref 241), en P "words_of" 483 (.ref 248), en P "walks_of_one_turn" 489 (.ref 253), en P "least_to" 495 (.ref 258), en P "lengthened" 501 (.ref 263), en P "after_a_turn" 507 (.ref 268), en P "has_honest" 513 (.ref 273), en P "closed_below_zero" 522 (.ref 280), en P "ring" 528 (.ref 285), en P "refuse_ring" 537 (.ref 292), en P "lesser" 545 (.ref 299), en P "least_roads" 551 (.ref 304), en P "greatest" 559 (.ref 309), en P "dealt_places" 567 (.ref 314), en P "worths_at" 573 (.ref 319), en P "grid_of" 579 (.ref 324), en P "grids_of" 587 (.ref 329), en P "paper" 597 (.ref 336), en P "verdict" 610 (.ref 343), en P "are_weights" 618 (.ref 348), en P "are_handicaps" 626 (.ref 355), en P "refuse_weights" 635 (.ref 362), en P "part_of" 641 (.ref 367), en P "parts_of" 647 (.ref 372), en P "scores" 653 (.ref 377), en P "best_place" 660 (.ref 384), en P "best_outcome" 670 (.ref 391), en P "best_table" 676 (.ref 396), en P "_law_cell" 686 (.ref 403), en P "_law_number" 694 (.ref 410), en P "_law_names" 700 (.ref 415), en P "_law_hands" 706 (.ref 420), en P "_law_rows" 718 (.ref 427), en P "_law_worths" 726 (.ref 434), en P "_law_weights" 732 (.ref 439), en P "_law_handicaps" 738 (.ref 444), en P "_law_scores" 752 (.ref 451), en P "_law_column" 758 (.ref 456), en P "_law_fits" 769 (.ref 463), en P "law" 775 (.ref 468)] 85), #[]⟩
def o198 : Obj := (co "with_each" 421 84 2 3 195 true 196 .none .none .none (.ref 197) 424)
def o199 : Obj := (fo 33 "with_each" "trueword.houses" 309 198)
def o205 : Obj := (co "rows_over" 427 89 1 3 200 true 201 .none (.ref 202) (.ref 203) (.ref 204) 433)
def o206 : Obj := (fo 34 "rows_over" "trueword.houses" 309 205)
def o212 : Obj := (co "rows_of" 436 94 1 3 207 true 208 .none (.ref 209) (.ref 210) (.ref 211) 440)
def o213 : Obj := (fo 35 "rows_of" "trueword.houses" 309 212)
def o219 : Obj := (co "without" 443 96 2 3 214 true 215 .none (.ref 216) (.ref 217) (.ref 218) 448)
def o220 : Obj := (fo 36 "without" "trueword.houses" 309 219)
def o226 : Obj := (co "others_of" 451 98 2 3 221 true 222 .none (.ref 223) (.ref 224) (.ref 225) 456)
def o227 : Obj := (fo 37 "others_of" "trueword.houses" 309 226)
def o233 : Obj := (co "row_with" 459 100 3 3 228 true 229 .none (.ref 230) (.ref 231) (.ref 232) 465)
def o234 : Obj := (fo 38 "row_with" "trueword.houses" 309 233)
def o240 : Obj := (co "total_of" 470 103 1 3 235 true 236 .none (.ref 237) (.ref 238) (.ref 239) 474)
def o241 : Obj := (fo 40 "total_of" "trueword.rings" 468 240)
def o247 : Obj := (co "words_of" 477 105 1 3 242 true 243 .none (.ref 244) (.ref 245) (.ref 246) 481)
def o248 : Obj := (fo 41 "words_of" "trueword.rings" 468 247)
def o252 : Obj := (co "walks_of_one_turn" 484 107 2 3 249 true 250 .none .none .none (.ref 251) 487)
def o253 : Obj := (fo 42 "walks_of_one_turn" "trueword.rings" 468 252)
def o257 : Obj := (co "least_to" 490 109 3 3 254 true 255 .none .none .none (.ref 256) 493)
def o258 : Obj := (fo 43 "least_to" "trueword.rings" 468 257)
def o262 : Obj := (co "lengthened" 496 112 2 3 259 true 260 .none .none .none (.ref 261) 499)
def o263 : Obj := (fo 44 "lengthened" "trueword.rings" 468 262)
def o267 : Obj := (co "after_a_turn" 502 114 3 3 264 true 265 .none .none .none (.ref 266) 505)
def o268 : Obj := (fo 45 "after_a_turn" "trueword.rings" 468 267)
def o272 : Obj := (co "has_honest" 508 116 1 3 269 true 270 .none .none .none (.ref 271) 511)
def o273 : Obj := (fo 46 "has_honest" "trueword.rings" 468 272)
def o279 : Obj := (co "closed_below_zero" 514 121 1 3 274 true 275 .none (.ref 276) (.ref 277) (.ref 278) 520)
def o280 : Obj := (fo 47 "closed_below_zero" "trueword.rings" 468 279)
def o284 : Obj := (co "ring" 523 126 1 3 281 true 282 .none .none .none (.ref 283) 526)
def o285 : Obj := (fo 48 "ring" "trueword.rings" 468 284)
def o291 : Obj := (co "refuse_ring" 531 137 1 3 286 true 287 .none (.ref 288) (.ref 289) (.ref 290) 535)
def o292 : Obj := (fo 50 "refuse_ring" "trueword.roads" 529 291)
def o298 : Obj := (co "lesser" 538 140 2 3 293 true 294 .none (.ref 295) (.ref 296) (.ref 297) 543)
def o299 : Obj := (fo 51 "lesser" "trueword.roads" 529 298)
def o303 : Obj := (co "least_roads" 546 142 2 3 300 true 301 .none .none .none (.ref 302) 549)
def o304 : Obj := (fo 52 "least_roads" "trueword.roads" 529 303)
def o308 : Obj := (co "greatest" 554 147 1 3 305 true 306 .none .none .none (.ref 307) 557)
def o309 : Obj := (fo 54 "greatest" "trueword.pays" 552 308)
def o313 : Obj := (co "dealt_places" 562 152 4 3 310 true 311 .none .none .none (.ref 312) 565)
def o314 : Obj := (fo 56 "dealt_places" "trueword.tables" 560 313)
def o318 : Obj := (co "worths_at" 568 155 2 3 315 true 316 .none .none .none (.ref 317) 571)
def o319 : Obj := (fo 57 "worths_at" "trueword.tables" 560 318)
def o323 : Obj := (co "grid_of" 574 157 4 3 320 true 321 .none .none .none (.ref 322) 577)
def o324 : Obj := (fo 58 "grid_of" "trueword.tables" 560 323)
def o328 : Obj := (co "grids_of" 582 161 2 3 325 true 326 .none .none .none (.ref 327) 585)
def o329 : Obj := (fo 60 "grids_of" "trueword.verdicts" 580 328)
def o335 : Obj := (co "paper" 588 166 3 3 330 true 331 .none (.ref 332) (.ref 333) (.ref 334) 595)
def o336 : Obj := (fo 61 "paper" "trueword.verdicts" 580 335)
def o342 : Obj := (co "verdict" 598 169 2 3 337 true 338 .none (.ref 339) (.ref 340) (.ref 341) 608)
def o343 : Obj := (fo 62 "verdict" "trueword.verdicts" 580 342)
def o347 : Obj := (co "are_weights" 613 178 2 3 344 true 345 .none .none .none (.ref 346) 616)
def o348 : Obj := (fo 64 "are_weights" "trueword.best" 611 347)
def o354 : Obj := (co "are_handicaps" 619 180 2 3 349 true 350 .none (.ref 351) (.ref 352) (.ref 353) 624)
def o355 : Obj := (fo 65 "are_handicaps" "trueword.best" 611 354)
def o361 : Obj := (co "refuse_weights" 627 182 3 3 356 true 357 .none (.ref 358) (.ref 359) (.ref 360) 633)
def o362 : Obj := (fo 66 "refuse_weights" "trueword.best" 611 361)
def o366 : Obj := (co "part_of" 636 187 3 3 363 true 364 .none .none .none (.ref 365) 639)
def o367 : Obj := (fo 67 "part_of" "trueword.best" 611 366)
def o371 : Obj := (co "parts_of" 642 189 3 3 368 true 369 .none .none .none (.ref 370) 645)
def o372 : Obj := (fo 68 "parts_of" "trueword.best" 611 371)
def o376 : Obj := (co "scores" 648 191 4 3 373 true 374 .none .none .none (.ref 375) 651)
def o377 : Obj := (fo 69 "scores" "trueword.best" 611 376)
def o383 : Obj := (co "best_place" 654 197 1 3 378 true 379 .none (.ref 380) (.ref 381) (.ref 382) 658)
def o384 : Obj := (fo 70 "best_place" "trueword.best" 611 383)
def o390 : Obj := (co "best_outcome" 661 199 4 3 385 true 386 .none (.ref 387) (.ref 388) (.ref 389) 668)
def o391 : Obj := (fo 71 "best_outcome" "trueword.best" 611 390)
def o395 : Obj := (co "best_table" 671 201 3 3 392 true 393 .none .none .none (.ref 394) 674)
def o396 : Obj := (fo 72 "best_table" "trueword.best" 611 395)
def o402 : Obj := (co "_law_cell" 679 204 2 3 397 true 398 .none (.ref 399) (.ref 400) (.ref 401) 684)
def o403 : Obj := (fo 74 "_law_cell" "law_trueword_k56_best_is_payable" 677 402)
def o409 : Obj := (co "_law_number" 687 208 2 3 404 true 405 .none (.ref 406) (.ref 407) (.ref 408) 692)
def o410 : Obj := (fo 75 "_law_number" "law_trueword_k56_best_is_payable" 677 409)
def o414 : Obj := (co "_law_names" 695 216 2 3 411 true 412 .none .none .none (.ref 413) 698)
def o415 : Obj := (fo 76 "_law_names" "law_trueword_k56_best_is_payable" 677 414)
def o419 : Obj := (co "_law_hands" 701 227 3 3 416 true 417 .none .none .none (.ref 418) 704)
def o420 : Obj := (fo 77 "_law_hands" "law_trueword_k56_best_is_payable" 677 419)
def o426 : Obj := (co "_law_rows" 707 240 1 3 421 true 422 .none (.ref 423) (.ref 424) (.ref 425) 716)
def o427 : Obj := (fo 78 "_law_rows" "law_trueword_k56_best_is_payable" 677 426)
def o433 : Obj := (co "_law_worths" 719 249 2 3 428 true 429 .none (.ref 430) (.ref 431) (.ref 432) 724)
def o434 : Obj := (fo 79 "_law_worths" "law_trueword_k56_best_is_payable" 677 433)
def o438 : Obj := (co "_law_weights" 727 251 2 3 435 true 436 .none .none .none (.ref 437) 730)
def o439 : Obj := (fo 80 "_law_weights" "law_trueword_k56_best_is_payable" 677 438)
def o443 : Obj := (co "_law_handicaps" 733 253 2 3 440 true 441 .none .none .none (.ref 442) 736)
def o444 : Obj := (fo 81 "_law_handicaps" "law_trueword_k56_best_is_payable" 677 443)
def o450 : Obj := (co "_law_scores" 739 255 4 3 445 true 446 .none (.ref 447) (.ref 448) (.ref 449) 750)
def o451 : Obj := (fo 82 "_law_scores" "law_trueword_k56_best_is_payable" 677 450)
def o455 : Obj := (co "_law_column" 753 262 5 3 452 true 453 .none .none .none (.ref 454) 756)
def o456 : Obj := (fo 83 "_law_column" "law_trueword_k56_best_is_payable" 677 455)
def o462 : Obj := (co "_law_fits" 759 265 2 3 457 true 458 .none (.ref 459) (.ref 460) (.ref 461) 767)
def o463 : Obj := (fo 84 "_law_fits" "law_trueword_k56_best_is_payable" 677 462)
def o467 : Obj := (co "law" 770 274 1 3 464 true 465 .none .none .none (.ref 466) 773)
def o468 : Obj := (fo 85 "law" "law_trueword_k56_best_is_payable" 677 467)
def t2 (P : Params) : BT := ia (((t1 P).set 3 fun _ => o3_1 P).set 12 fun _ => ⟨.none, none, (.fields #[(.int (2) 0), (.int (0) 0), (.ref 20), (.int (4) 0), (.int (0) 0), (.ref 33), (.int (6) 0), (.int (0) 0), (.ref 45), (.int (8) 0), (.int (0) 0), (.ref 57), (.int (12) 0), (.int (0) 0), (.ref 69), (.int (14) 0), (.int (0) 0), (.ref 76), (.int (16) 0), (.int (0) 0), (.ref 81), (.int (20) 0), (.int (0) 0), (.ref 88), (.int (22) 0), (.int (0) 0), (.ref 95), (.int (24) 0), (.int (0) 0), (.ref 102), (.int (36) 0), (.int (0) 0), (.ref 107), (.int (40) 0), (.int (0) 0), (.ref 112), (.int (44) 0), (.int (0) 0), (.ref 117), (.int (48) 0), (.int (0) 0), (.ref 124), (.int (52) 0), (.int (0) 0), (.ref 131), (.int (54) 0), (.int (0) 0), (.ref 136), (.int (56) 0), (.int (0) 0), (.ref 143), (.int (58) 0), (.int (0) 0), (.ref 150), (.int (60) 0), (.int (0) 0), (.ref 157), (.int (62) 0), (.int (0) 0), (.ref 164), (.int (67) 0), (.int (0) 0), (.ref 169), (.int (73) 0), (.int (0) 0), (.ref 174), (.int (76) 0), (.int (0) 0), (.ref 179), (.int (80) 0), (.int (0) 0), (.ref 186), (.int (82) 0), (.int (0) 0), (.ref 193), (.int (84) 0), (.int (0) 0), (.ref 198), (.int (89) 0), (.int (0) 0), (.ref 205), (.int (94) 0), (.int (0) 0), (.ref 212), (.int (96) 0), (.int (0) 0), (.ref 219), (.int (98) 0), (.int (0) 0), (.ref 226), (.int (100) 0), (.int (0) 0), (.ref 233), (.int (103) 0), (.int (0) 0), (.ref 240), (.int (105) 0), (.int (0) 0), (.ref 247), (.int (107) 0), (.int (0) 0), (.ref 252), (.int (109) 0), (.int (0) 0), (.ref 257), (.int (112) 0), (.int (0) 0), (.ref 262), (.int (114) 0), (.int (0) 0), (.ref 267), (.int (116) 0), (.int (0) 0), (.ref 272), (.int (121) 0), (.int (0) 0), (.ref 279), (.int (126) 0), (.int (0) 0), (.ref 284), (.int (137) 0), (.int (0) 0), (.ref 291), (.int (140) 0), (.int (0) 0), (.ref 298), (.int (142) 0), (.int (0) 0), (.ref 303), (.int (147) 0), (.int (0) 0), (.ref 308), (.int (152) 0), (.int (0) 0), (.ref 313), (.int (155) 0), (.int (0) 0), (.ref 318), (.int (157) 0), (.int (0) 0), (.ref 323), (.int (161) 0), (.int (0) 0), (.ref 328), (.int (166) 0), (.int (0) 0), (.ref 335), (.int (169) 0), (.int (0) 0), (.ref 342), (.int (178) 0), (.int (0) 0), (.ref 347), (.int (180) 0), (.int (0) 0), (.ref 354), (.int (182) 0), (.int (0) 0), (.ref 361), (.int (187) 0), (.int (0) 0), (.ref 366), (.int (189) 0), (.int (0) 0), (.ref 371), (.int (191) 0), (.int (0) 0), (.ref 376), (.int (197) 0), (.int (0) 0), (.ref 383), (.int (199) 0), (.int (0) 0), (.ref 390), (.int (201) 0), (.int (0) 0), (.ref 395), (.int (204) 0), (.int (0) 0), (.ref 402), (.int (208) 0), (.int (0) 0), (.ref 409), (.int (216) 0), (.int (0) 0), (.ref 414), (.int (227) 0), (.int (0) 0), (.ref 419), (.int (240) 0), (.int (0) 0), (.ref 426), (.int (249) 0), (.int (0) 0), (.ref 433), (.int (251) 0), (.int (0) 0), (.ref 438), (.int (253) 0), (.int (0) 0), (.ref 443), (.int (255) 0), (.int (0) 0), (.ref 450), (.int (262) 0), (.int (0) 0), (.ref 455), (.int (265) 0), (.int (0) 0), (.ref 462), (.int (274) 0), (.int (0) 0), (.ref 467)]), #[]⟩) 195 [oE, oF, (xo 33 "with_each"), o198, o199, oE, oF, (ts 430 ["hands", "rows", "hand"]), oE, (xo 34 "rows_over"), o205, o206, oE, oF, (ts 439 ["house"]), oE, (xo 35 "rows_of"), o212, o213, oE, oF, (ts 446 ["things", "k"]), oE, (xo 36 "without"), o219, o220, oE, oF, (ts 454 ["house", "k"]), oE, (xo 37 "others_of"), o226, o227, oE, oF, (ts 462 ["others", "k", "word"]), oE, (xo 38 "row_with"), o233, o234, oE, oF, (ts 473 ["walk"]), oE, (xo 40 "total_of"), o240, o241, oE, oF, (ts 480 ["walk"]), oE, (xo 41 "words_of"), o247, o248, oE, oF, (xo 42 "walks_of_one_turn"), o252, o253, oE, oF, (xo 43 "least_to"), o257, o258, oE, oF, (xo 44 "lengthened"), o262, o263, oE, oF, (xo 45 "after_a_turn"), o267, o268, oE, oF, (xo 46 "has_honest"), o272, o273, oE, oF, (ts 517 ["rows", "s", "walks"]), oE, (xo 47 "closed_below_zero"), o279, o280, oE, oF, (xo 48 "ring"), o284, o285, oE, oF, (ts 534 ["grid"]), oE, (xo 50 "refuse_ring"), o291, o292, oE, oF, (ts 541 ["walk", "longer"]), oE, (xo 51 "lesser"), o298, o299, oE, oF, (xo 52 "least_roads"), o303, o304, oE, oF, (xo 54 "greatest"), o308, o309, oE, oF, (xo 56 "dealt_places"), o313, o314, oE, oF, (xo 57 "worths_at"), o318, o319, oE, oF, (xo 58 "grid_of"), o323, o324, oE, oF, (xo 60 "grids_of"), o328, o329, oE, oF, (ts 591 ["k", "others", "grid", "told"]), oE, (xo 61 "paper"), o335, o336, oE, oF, (ts 601 ["house", "table", "papers", "k", "others", "grid", "found"]), oE, (xo 62 "verdict"), o342, o343, oE, oF, (xo 64 "are_weights"), o347, o348, oE, oF, (ts 622 ["house", "thing"]), oE, (xo 65 "are_handicaps"), o354, o355, oE, oF, (ts 630 ["house", "weights", "handicaps"]), oE, (xo 66 "refuse_weights"), o361, o362, oE, oF, (xo 67 "part_of"), o366, o367, oE, oF, (xo 68 "parts_of"), o371, o372, oE, oF, (xo 69 "scores"), o376, o377, oE, oF, (ts 657 ["totals"]), oE, (xo 70 "best_place"), o383, o384, oE, oF, (ts 664 ["house", "weights", "handicaps", "row"]), oE, (xo 71 "best_outcome"), o390, o391, oE, oF, (xo 72 "best_table"), o395, o396, oE, oF, (ts 682 ["script", "k"]), oE, (xo 74 "_law_cell"), o402, o403, oE, oF, (ts 690 ["cell", "top"]), oE, (xo 75 "_law_number"), o409, o410, oE, oF, (xo 76 "_law_names"), o414, o415, oE, oF, (xo 77 "_law_hands"), o419, o420, oE, oF, (ts 710 ["hands", "rows", "hand", "longer_ones", "row", "word"]), oE, (xo 78 "_law_rows"), o426, o427, oE, oF, (ts 722 ["hand", "word"]), oE, (xo 79 "_law_worths"), o433, o434, oE, oF, (xo 80 "_law_weights"), o438, o439, oE, oF, (xo 81 "_law_handicaps"), o443, o444, oE, oF, (ts 742 ["hands", "weights", "handicaps", "row", "found", "k", "worths", "j"]), oE, (xo 82 "_law_scores"), o450, o451, oE, oF, (xo 83 "_law_column"), o455, o456, oE, oF, (ts 762 ["grid", "pays", "t", "s", "more"]), oE, (xo 84 "_law_fits"), o462, o463, oE, oF, (xo 85 "law"), o467, o468]
def hf (P : Params) : Heap := absHeap (t2 P) 469 (lf P)
def s0 (w : World) (os : OsState) : SharedT := ⟨t0 w.params, 15, lf w.params, Array.mk [], boot_drawn, 187, os⟩
def s1 (w : World) (os : OsState) : SharedT := ⟨t1 w.params, 195, lf w.params, Array.mk [], boot_drawn, 421, os⟩
def s2 (w : World) (os : OsState) : SharedT := ⟨t2 w.params, 469, lf w.params, Array.mk [], boot_drawn, 776, os⟩
def l0 : List Stmt := (pr.main.body.drop 0).take 33
def l1 : List Stmt := (pr.main.body.drop 33).take 53
theorem bs : behindTheImports pr = l0 ++ (l1 ++ ([])) := by kernel_rfl
theorem r_pre (w : World) (os : OsState) : topGo treeTable pr w 11 (some (.ref 6)) 12 ⟨boot_heap w.params, Array.mk [], boot_drawn, boot_toks, os⟩ (topStub pr) = some (⟨ha w.params, Array.mk [], boot_drawn, 187, os⟩, ⟨denote treeTable cd, cd, ⟨0, 0, 0, 0⟩, [topFrame qp]⟩) := by kernel_rfl
theorem zi3 (w : World) (os : OsState) : segRun treeTable pr w 11 (some (.ref 6)) 1 1 ⟨ha w.params, Array.mk [], boot_drawn, 187, os⟩ (blockOf (behindTheImports pr) env cd ⟨0, 0, 0, 0⟩ [topFrame qp]) = some (.next, (s0 w os).abs, cd, ⟨0, 0, 0, 0⟩) := by kernel_rfl
theorem r0 (w : World) (os : OsState) : segRunT treeTable pr w 11 (some (.ref 6)) 1 1496 (s0 w os) (piecesOf l0 env cd ⟨0, 0, 0, 0⟩ [topFrame qp]) = some (.next, s1 w os, cd, ⟨82, 0, 83, 19⟩) := by
  rw [PySem.W.Fast.te10110043849684766642, PySem.W.Fast.te14364793385576792824]; kernel_rfl
theorem r1 (w : World) (os : OsState) : segRunT treeTable pr w 11 (some (.ref 6)) 1 1369 (s1 w os) (piecesOf l1 env cd ⟨82, 0, 83, 19⟩ [topFrame qp]) = some (.next, s2 w os, cd, ⟨274, 0, 292, 15⟩) := by
  rw [PySem.W.Fast.te10110043849684766642, PySem.W.Fast.te14364793385576792824]; kernel_rfl
theorem r_fin (w : World) (os : OsState) : topRun treeTable pr w 11 (some (.ref 6)) 2 (s2 w os).abs ⟨doneF .next, cd, ⟨274, 0, 292, 15⟩, [topFrame qp]⟩ = some ⟨hf w.params, Array.mk [], boot_drawn, 776, os⟩ := by kernel_rfl
theorem r_rest (w : World) (os : OsState) : topRun treeTable pr w 11 (some (.ref 6)) (1496 + (1369 + (2))) (s0 w os).abs (restOf (behindTheImports pr) env cd ⟨0, 0, 0, 0⟩ [topFrame qp]) = some ⟨hf w.params, Array.mk [], boot_drawn, 776, os⟩ := by
  have k := piece_app (segRun_of (r0 w os)) (piece_app (segRun_of (r1 w os)) (piece_nil (r_fin w os)));exact (congrArg (fun b => topRun treeTable pr w 11 (some (.ref 6)) (1496 + (1369 + (2))) (s0 w os).abs (restOf b env cd ⟨0, 0, 0, 0⟩ [topFrame qp])) bs).trans k
theorem r_all (w : World) (os : OsState) : topRun treeTable pr w 11 (some (.ref 6)) (12 + (1 + (1496 + (1369 + (2))))) ⟨boot_heap w.params, Array.mk [], boot_drawn, boot_toks, os⟩ (topStub pr) = some ⟨hf w.params, Array.mk [], boot_drawn, 776, os⟩ := go_top (r_pre w os) (piece_block (zi3 w os) (r_rest w os))
def ks : List Addr := [3, 13, 17, 20, 23, 24, 30, 33, 36, 37, 42, 45, 48, 49, 54, 57, 60, 61, 69, 70, 76, 77, 81, 82, 88, 89, 95, 96, 102, 103, 107, 108, 112, 113, 117, 118, 124, 125, 131, 132, 136, 137, 143, 144, 150, 151, 157, 158, 164, 165, 169, 170, 174, 175, 179, 180, 186, 187, 193, 194, 198, 199, 205, 206, 212, 213, 219, 220, 226, 227, 233, 234, 240, 241, 247, 248, 252, 253, 257, 258, 262, 263, 267, 268, 272, 273, 279, 280, 284, 285, 291, 292, 298, 299, 303, 304, 308, 309, 313, 314, 318, 319, 323, 324, 328, 329, 335, 336, 342, 343, 347, 348, 354, 355, 361, 362, 366, 367, 371, 372, 376, 377, 383, 384, 390, 391, 395, 396, 402, 403, 409, 410, 414, 415, 419, 420, 426, 427, 433, 434, 438, 439, 443, 444, 450, 451, 455, 456, 462, 463, 467, 468]
def K : Params -> Frag := fun P => (nat_lit 3, o3_1 P) :: (nat_lit 13, o13) :: (nat_lit 17, o17 P) :: (nat_lit 20, o20) :: (nat_lit 23, o23 P) :: (nat_lit 24, o24) :: (nat_lit 30, o30 P) :: (nat_lit 33, o33) :: (nat_lit 36, o36 P) :: (nat_lit 37, o37) :: (nat_lit 42, o42 P) :: (nat_lit 45, o45) :: (nat_lit 48, o48 P) :: (nat_lit 49, o49) :: (nat_lit 54, o54 P) :: (nat_lit 57, o57) :: (nat_lit 60, o60 P) :: (nat_lit 61, o61) :: (nat_lit 69, o69) :: (nat_lit 70, o70) :: (nat_lit 76, o76) :: (nat_lit 77, o77) :: (nat_lit 81, o81) :: (nat_lit 82, o82) :: (nat_lit 88, o88) :: (nat_lit 89, o89) :: (nat_lit 95, o95) :: (nat_lit 96, o96) :: (nat_lit 102, o102) :: (nat_lit 103, o103) :: (nat_lit 107, o107) :: (nat_lit 108, o108) :: (nat_lit 112, o112) :: (nat_lit 113, o113) :: (nat_lit 117, o117) :: (nat_lit 118, o118) :: (nat_lit 124, o124) :: (nat_lit 125, o125) :: (nat_lit 131, o131) :: (nat_lit 132, o132) :: (nat_lit 136, o136) :: (nat_lit 137, o137) :: (nat_lit 143, o143) :: (nat_lit 144, o144) :: (nat_lit 150, o150) :: (nat_lit 151, o151) :: (nat_lit 157, o157) :: (nat_lit 158, o158) :: (nat_lit 164, o164) :: (nat_lit 165, o165) :: (nat_lit 169, o169) :: (nat_lit 170, o170) :: (nat_lit 174, o174) :: (nat_lit 175, o175) :: (nat_lit 179, o179) :: (nat_lit 180, o180) :: (nat_lit 186, o186) :: (nat_lit 187, o187) :: (nat_lit 193, o193) :: (nat_lit 194, o194) :: (nat_lit 198, o198) :: (nat_lit 199, o199) :: (nat_lit 205, o205) :: (nat_lit 206, o206) :: (nat_lit 212, o212) :: (nat_lit 213, o213) :: (nat_lit 219, o219) :: (nat_lit 220, o220) :: (nat_lit 226, o226) :: (nat_lit 227, o227) :: (nat_lit 233, o233) :: (nat_lit 234, o234) :: (nat_lit 240, o240) :: (nat_lit 241, o241) :: (nat_lit 247, o247) :: (nat_lit 248, o248) :: (nat_lit 252, o252) :: (nat_lit 253, o253) :: (nat_lit 257, o257) :: (nat_lit 258, o258) :: (nat_lit 262, o262) :: (nat_lit 263, o263) :: (nat_lit 267, o267) :: (nat_lit 268, o268) :: (nat_lit 272, o272) :: (nat_lit 273, o273) :: (nat_lit 279, o279) :: (nat_lit 280, o280) :: (nat_lit 284, o284) :: (nat_lit 285, o285) :: (nat_lit 291, o291) :: (nat_lit 292, o292) :: (nat_lit 298, o298) :: (nat_lit 299, o299) :: (nat_lit 303, o303) :: (nat_lit 304, o304) :: (nat_lit 308, o308) :: (nat_lit 309, o309) :: (nat_lit 313, o313) :: (nat_lit 314, o314) :: (nat_lit 318, o318) :: (nat_lit 319, o319) :: (nat_lit 323, o323) :: (nat_lit 324, o324) :: (nat_lit 328, o328) :: (nat_lit 329, o329) :: (nat_lit 335, o335) :: (nat_lit 336, o336) :: (nat_lit 342, o342) :: (nat_lit 343, o343) :: (nat_lit 347, o347) :: (nat_lit 348, o348) :: (nat_lit 354, o354) :: (nat_lit 355, o355) :: (nat_lit 361, o361) :: (nat_lit 362, o362) :: (nat_lit 366, o366) :: (nat_lit 367, o367) :: (nat_lit 371, o371) :: (nat_lit 372, o372) :: (nat_lit 376, o376) :: (nat_lit 377, o377) :: (nat_lit 383, o383) :: (nat_lit 384, o384) :: (nat_lit 390, o390) :: (nat_lit 391, o391) :: (nat_lit 395, o395) :: (nat_lit 396, o396) :: (nat_lit 402, o402) :: (nat_lit 403, o403) :: (nat_lit 409, o409) :: (nat_lit 410, o410) :: (nat_lit 414, o414) :: (nat_lit 415, o415) :: (nat_lit 419, o419) :: (nat_lit 420, o420) :: (nat_lit 426, o426) :: (nat_lit 427, o427) :: (nat_lit 433, o433) :: (nat_lit 434, o434) :: (nat_lit 438, o438) :: (nat_lit 439, o439) :: (nat_lit 443, o443) :: (nat_lit 444, o444) :: (nat_lit 450, o450) :: (nat_lit 451, o451) :: (nat_lit 455, o455) :: (nat_lit 456, o456) :: (nat_lit 462, o462) :: (nat_lit 463, o463) :: (nat_lit 467, o467) :: (nat_lit 468, o468) :: []
theorem ke (P : Params) : ks = (K P).map (·.1) := by kernel_rfl
def lo : List Str := pr.main.scope.names.map (·.1)
def vw : Program := { pr with main := { pr.main with body := [Mine.i0] } }
def fs (w : World) (os : OsState) : Shared := ⟨hf w.params, Array.mk [], boot_drawn, 776, os⟩
theorem z_size (w : World) : ((boot_heap w.params).isNs mainGlobals && (Array.mk [] : Array GenState).size == 0, (boot_heap w.params).objs.size, (boot_heap w.params).nsMap mainGlobals "__annotations__") = (true, 11, (some (.ref 6))) := by kernel_rfl
theorem z_one (w : World) (os : OsState) : (staticsOk (importedModules pr.main.body) (boot_heap w.params) (hf w.params) && namesBound pr (hf w.params) && gensDone (fs w os) && laidKept (boot_heap w.params) (hf w.params)) = true := by kernel_rfl
theorem z_two (w : World) (os : OsState) : openSeen vw lo (importedModules pr.main.body) (fun _ => true) true (fs w os) = openGood vw lo := by
  rw [PySem.W.Fast.te4187177175401517315]; kernel_rfl
theorem zid (w : World) (os : OsState) : (kHook K ks ke).obs (fs w os) = (kHook K ks ke).val w := by kernel_rfl
theorem z_open : opening pr = plainProg pr.main.scope.names := by kernel_rfl
theorem zh9 (s : Shared) : fenceModules? pr s = some s := by kernel_rfl
theorem left : LeftO pr vw lo (fun _ => true) (kHook K ks ke).obs (kHook K ks ke).val 1000000 :=
  LeftO.of_pieces (boot_open z_open rfl zh9) z_size r_all rfl fun w => funext fun os => looks_pair (z_one w os) (looks_pair (z_two w os) (zid w os))
end
end Tp
open PySem PySem.W PyProof.Rows
set_option maxRecDepth 100000 in
set_option maxHeartbeats 0 in
theorem PySem.Challenge.cw_trueword_k56_best_is_payable_holds : PySem.Challenge.rw_trueword_k56_best_is_payable.Holds := by
  refine holds_law (by rw [PySem.W.Fast.te9446332074065402090]; kernel_rfl) fun said => ?_
  refine holds_open (q := Tp.vw) (loose := Tp.lo) (Xt := fun _ => true) (XP := fun _ _ => True) (Yf := (kHook Tp.K Tp.ks Tp.ke).obs) (Ya := (kHook Tp.K Tp.ks Tp.ke).val) (YP := (kHook Tp.K Tp.ks Tp.ke).says) (N := 1000000) Tp.left (kHook Tp.K Tp.ks Tp.ke).of (kHook Tp.K Tp.ks Tp.ke).keeps (fun _ _ => trivial) (fun _ _ _ _ _ => trivial) (by rfl) (by rfl) (by rfl) (fun _ _ => recFacts_nil rfl) (by rfl) said (by decide +kernel) ⟨rfl, rfl, rfl, rfl, rfl, by decide +kernel⟩ ?hw ?hc
  case hw => w_witness2
  k_fill
  refine L2.zhr (l := PySem.Challenge.rw_trueword_k56_best_is_payable) (n := 63) (k := 10) (x := "script") (CX := L2.CX0) (sp := Mine.zec) rfl (by decide) rfl ⟨rfl, by decide, by decide⟩ (fun w h Y => PySem.W.kIn_of Y) ?F ?S ?C
  case F =>
    intro w mg fa h KX G hmg
    have N : mg "abs" = none /\ mg "all" = none /\ mg "bool" = none /\ mg "dict" = none /\ mg "enumerate" = none /\ mg "int" = none /\ mg "isinstance" = none /\ mg "len" = none /\ mg "list" = none /\ mg "max" = none /\ mg "min" = none /\ mg "range" = none /\ mg "set" = none /\ mg "str" = none /\ mg "tuple" = none /\ mg "zip" = none /\ True := by
      refine ⟨?_, ?_, ?_, ?_, ?_, ?_, ?_, ?_, ?_, ?_, ?_, ?_, ?_, ?_, ?_, ?_, trivial⟩ <;> (refine' PySem.W.mg_none_of KX G ?a; (case a => k_is))
    obtain ⟨n_abs, n_all, n_bool, n_dict, n_enumerate, n_int, n_isinstance, n_len, n_list, n_max, n_min, n_range, n_set, n_str, n_tuple, n_zip, -⟩ := N;have k0_MOST_WORDS := PySem.W.mg_of (n := "MOST_WORDS") KX G (by k_is);have k_MOST_WORDS : ∃ t, mg "MOST_WORDS" = some (Value.int 8 t) := ⟨_, k0_MOST_WORDS⟩;have k0_MOST_LETTERS := PySem.W.mg_of (n := "MOST_LETTERS") KX G (by k_is);have k_MOST_LETTERS : ∃ t, mg "MOST_LETTERS" = some (Value.int 8 t) := ⟨_, k0_MOST_LETTERS⟩;have k0_MOST_OUTCOMES := PySem.W.mg_of (n := "MOST_OUTCOMES") KX G (by k_is);have k_MOST_OUTCOMES : ∃ t, mg "MOST_OUTCOMES" = some (Value.int 8 t) := ⟨_, k0_MOST_OUTCOMES⟩;have k0_MOST_HANDS := PySem.W.mg_of (n := "MOST_HANDS") KX G (by k_is);have k_MOST_HANDS : ∃ t, mg "MOST_HANDS" = some (Value.int 4 t) := ⟨_, k0_MOST_HANDS⟩;have k0_MOST_ROWS := PySem.W.mg_of (n := "MOST_ROWS") KX G (by k_is);have k_MOST_ROWS : ∃ t, mg "MOST_ROWS" = some (Value.int 256 t) := ⟨_, k0_MOST_ROWS⟩;have B : Mine.Bt mg := ⟨n_abs, n_all, n_bool, n_dict, n_enumerate, n_int, n_isinstance, n_len, n_list, n_max, n_min, n_range, n_set, n_str, n_tuple, n_zip, k_MOST_WORDS, k_MOST_LETTERS, k_MOST_OUTCOMES, k_MOST_HANDS, k_MOST_ROWS⟩;have z_NoHouse := L2.zbq (name := "NoHouse") KX G (by k_is) (by k_exc) (by k_is) (by k_is) (by k_is);have z_NoPays := L2.zbq (name := "NoPays") KX G (by k_is) (by k_exc) (by k_is) (by k_is) (by k_is);have z_NoWeight := L2.zbq (name := "NoWeight") KX G (by k_is) (by k_exc) (by k_is) (by k_is) (by k_is);have C := Mine.Ct.mk (mg := mg) (a := ⟨_, _, _⟩) (z_NoHouse.1) (z_NoHouse.2) (z_NoPays.1) (z_NoPays.2) (z_NoWeight.1) (z_NoWeight.2)
    have D : L2.zc (L2.KOf KX) mg "is_whole" Mine.om ["thing"] /\ L2.zc (L2.KOf KX) mg "is_bounded" Mine.se ["thing"] /\ L2.zc (L2.KOf KX) mg "is_grid_row" Mine.tj ["thing", "width"] /\ L2.zc (L2.KOf KX) mg "turn" Mine.d4 ["grid", "s", "t"] /\ L2.zc (L2.KOf KX) mg "gain" Mine.dh ["grid", "pays", "t", "s"] /\ L2.zc (L2.KOf KX) mg "first_gain" Mine.sw ["grid", "pays"] /\ L2.zc (L2.KOf KX) mg "is_name" Mine.mh ["thing"] /\ L2.zc (L2.KOf KX) mg "are_names" Mine.qf ["thing", "most"] /\ L2.zc (L2.KOf KX) mg "are_worths" Mine.s9 ["thing", "height", "width"] /\ L2.zc (L2.KOf KX) mg "is_hand" Mine.my ["thing", "width"] /\ L2.zc (L2.KOf KX) mg "name_of" Mine.mf ["hand"] /\ L2.zc (L2.KOf KX) mg "names_of" Mine.p0 ["hands"] /\ L2.zc (L2.KOf KX) mg "words_of_hand" Mine.w4 ["hand"] /\ L2.zc (L2.KOf KX) mg "worths_of_hand" Mine.wm ["hand"] /\ L2.zc (L2.KOf KX) mg "worths_by" Mine.qh ["hand", "word"] /\ L2.zc (L2.KOf KX) mg "count_of_rows" Mine.ub ["hands"] /\ L2.zc (L2.KOf KX) mg "makes_house" Mine.u8 ["outcomes", "hands"] /\ L2.zc (L2.KOf KX) mg "kept_hand" Mine.qi ["hand"] /\ L2.zc (L2.KOf KX) mg "house_of" Mine.p9 ["outcomes", "hands"] /\ L2.zc (L2.KOf KX) mg "outcomes_of" Mine.u9 ["house"] /\ L2.zc (L2.KOf KX) mg "hands_of" Mine.pk ["house"] /\ L2.zc (L2.KOf KX) mg "with_each" Mine.qc ["rows", "words"] /\ L2.zc (L2.KOf KX) mg "rows_over" Mine.r6 ["hands"] /\ L2.zc (L2.KOf KX) mg "rows_of" Mine.mm ["house"] /\ L2.zc (L2.KOf KX) mg "without" Mine.n0 ["things", "k"] /\ L2.zc (L2.KOf KX) mg "others_of" Mine.qo ["house", "k"] /\ L2.zc (L2.KOf KX) mg "row_with" Mine.oj ["others", "k", "word"] /\ L2.zc (L2.KOf KX) mg "total_of" Mine.oq ["walk"] /\ L2.zc (L2.KOf KX) mg "words_of" Mine.oa ["walk"] /\ L2.zc (L2.KOf KX) mg "walks_of_one_turn" Mine.wv ["grid", "s"] /\ L2.zc (L2.KOf KX) mg "least_to" Mine.sh ["grid", "walks", "t"] /\ L2.zc (L2.KOf KX) mg "lengthened" Mine.uc ["grid", "walks"] /\ L2.zc (L2.KOf KX) mg "after_a_turn" Mine.uo ["grid", "totals", "t"] /\ L2.zc (L2.KOf KX) mg "has_honest" Mine.sj ["grid"] /\ L2.zc (L2.KOf KX) mg "closed_below_zero" Mine.ww ["rows"] /\ L2.zc (L2.KOf KX) mg "ring" Mine.eg ["grid"] /\ L2.zc (L2.KOf KX) mg "refuse_ring" Mine.u6 ["grid"] /\ L2.zc (L2.KOf KX) mg "lesser" Mine.je ["walk", "longer"] /\ L2.zc (L2.KOf KX) mg "least_roads" Mine.tm ["grid", "walks"] /\ L2.zc (L2.KOf KX) mg "greatest" Mine.ou ["grid"] /\ L2.zc (L2.KOf KX) mg "dealt_places" Mine.uv ["house", "table", "k", "others"] /\ L2.zc (L2.KOf KX) mg "worths_at" Mine.qj ["worths", "places"] /\ L2.zc (L2.KOf KX) mg "grid_of" Mine.mn ["house", "table", "k", "others"] /\ L2.zc (L2.KOf KX) mg "grids_of" Mine.on ["house", "table"] /\ L2.zc (L2.KOf KX) mg "paper" Mine.ik ["k", "others", "grid"] /\ L2.zc (L2.KOf KX) mg "verdict" Mine.mr ["house", "table"] /\ L2.zc (L2.KOf KX) mg "are_weights" Mine.u7 ["house", "thing"] /\ L2.zc (L2.KOf KX) mg "are_handicaps" Mine.v7 ["house", "thing"] /\ L2.zc (L2.KOf KX) mg "refuse_weights" Mine.vi ["house", "weights", "handicaps"] /\ L2.zc (L2.KOf KX) mg "part_of" Mine.md ["hand", "weight", "word"] /\ L2.zc (L2.KOf KX) mg "parts_of" Mine.px ["house", "weights", "row"] /\ L2.zc (L2.KOf KX) mg "scores" Mine.kz ["house", "weights", "handicaps", "row"] /\ L2.zc (L2.KOf KX) mg "best_place" Mine.sk ["totals"] /\ L2.zc (L2.KOf KX) mg "best_outcome" Mine.uw ["house", "weights", "handicaps", "row"] /\ L2.zc (L2.KOf KX) mg "best_table" Mine.sf ["house", "weights", "handicaps"] /\ L2.zc (L2.KOf KX) mg "_law_cell" Mine.p7 ["script", "k"] /\ L2.zc (L2.KOf KX) mg "_law_number" Mine.ra ["cell", "top"] /\ L2.zc (L2.KOf KX) mg "_law_names" Mine.yh ["cell", "many"] /\ L2.zc (L2.KOf KX) mg "_law_hands" Mine.qe ["script", "places", "top"] /\ L2.zc (L2.KOf KX) mg "_law_rows" Mine.oo ["hands"] /\ L2.zc (L2.KOf KX) mg "_law_weights" Mine.tf ["script", "many"] /\ L2.zc (L2.KOf KX) mg "_law_handicaps" Mine.v9 ["script", "places"] /\ L2.zc (L2.KOf KX) mg "_law_column" Mine.su ["hands", "outcomes", "table", "k", "others"] /\ L2.zc (L2.KOf KX) mg "_law_fits" Mine.oi ["grid", "pays"] /\ L2.zc (L2.KOf KX) mg "law" Mine.i0 ["script"] /\ True := by
      refine ⟨?_, ?_, ?_, ?_, ?_, ?_, ?_, ?_, ?_, ?_, ?_, ?_, ?_, ?_, ?_, ?_, ?_, ?_, ?_, ?_, ?_, ?_, ?_, ?_, ?_, ?_, ?_, ?_, ?_, ?_, ?_, ?_, ?_, ?_, ?_, ?_, ?_, ?_, ?_, ?_, ?_, ?_, ?_, ?_, ?_, ?_, ?_, ?_, ?_, ?_, ?_, ?_, ?_, ?_, ?_, ?_, ?_, ?_, ?_, ?_, ?_, ?_, ?_, ?_, ?_, trivial⟩ <;> (dsimp only [L2.KOf]; refine' L2.def_mk KX G ?a ?l ?c ?k ?h; (case a => k_is); (case l => k_is); (case c => k_is); (case k => k_is); (case h => first | exact (fun _ _ _ _ _ _ us hl => match us, hl with | [_], _ => rfl) | exact (fun _ _ _ _ _ _ us hl => match us, hl with | [_, _], _ => rfl) | exact (fun _ _ _ _ _ _ us hl => match us, hl with | [_, _, _], _ => rfl) | exact (fun _ _ _ _ _ _ us hl => match us, hl with | [_, _, _, _], _ => rfl) | exact (fun _ _ _ _ _ _ us hl => match us, hl with | [_, _, _, _, _], _ => rfl)))
    obtain ⟨d_is_whole, d_is_bounded, d_is_grid_row, d_turn, d_gain, d_first_gain, d_is_name, d_are_names, d_are_worths, d_is_hand, d_name_of, d_names_of, d_words_of_hand, d_worths_of_hand, d_worths_by, d_count_of_rows, d_makes_house, d_kept_hand, d_house_of, d_outcomes_of, d_hands_of, d_with_each, d_rows_over, d_rows_of, d_without, d_others_of, d_row_with, d_total_of, d_words_of, d_walks_of_one_turn, d_least_to, d_lengthened, d_after_a_turn, d_has_honest, d_closed_below_zero, d_ring, d_refuse_ring, d_lesser, d_least_roads, d_greatest, d_dealt_places, d_worths_at, d_grid_of, d_grids_of, d_paper, d_verdict, d_are_weights, d_are_handicaps, d_refuse_weights, d_part_of, d_parts_of, d_scores, d_best_place, d_best_outcome, d_best_table, d_law_cell, d_law_number, d_law_names, d_law_hands, d_law_rows, d_law_weights, d_law_handicaps, d_law_column, d_law_fits, d_law, -⟩ := D;obtain ⟨f, fd, e1, F1, b1⟩ := d_law.ex;have e2 := hmg.symm.trans e1;cases e2;refine ⟨fd, fun s u => ?_, fun base kb nb => ?_⟩
    . exact Mine.zf1 F1 s u
    . exact Mine.law_ok B C d_is_whole d_is_bounded d_is_grid_row d_turn d_gain d_first_gain d_is_name d_are_names d_are_worths d_is_hand d_name_of d_names_of d_words_of_hand d_worths_of_hand d_worths_by d_count_of_rows d_makes_house d_kept_hand d_house_of d_outcomes_of d_hands_of d_with_each d_rows_over d_rows_of d_without d_others_of d_row_with d_total_of d_words_of d_walks_of_one_turn d_least_to d_lengthened d_after_a_turn d_has_honest d_closed_below_zero d_ring d_refuse_ring d_lesser d_least_roads d_greatest d_dealt_places d_worths_at d_grid_of d_grids_of d_paper d_verdict d_are_weights d_are_handicaps d_refuse_weights d_part_of d_parts_of d_scores d_best_place d_best_outcome d_best_table d_law_cell d_law_number d_law_names d_law_hands d_law_rows d_law_weights d_law_handicaps d_law_column d_law_fits base F1
  case S => exact fun K H a ns hl hO hS => ⟨a, ns, rfl, hS, hl, fun _ => rfl⟩
  case C => exact fun _ _ _ _ z => z
#print axioms PySem.Challenge.cw_trueword_k56_best_is_payable_holds

import PyProof.Rows.All
import Wide.All
import OpenK.AllK
import Wide.FinOn
import Lean
import PyProof.EqAt
import PyProof.EqKinds
import PyProof.TupleCall
import PySem.Challenge.RW_trueword_k40_asked_of_the_hands
abbrev Fg := PySem.W.Frag
abbrev Za := @List.length_map
abbrev Zb := @List.getElem?_eq_getElem
abbrev Zc := @List.getElem?_eq_some_iff
abbrev Zd := @Nat.le_trans
abbrev Ze := @List.getElem?_map
abbrev Zf := @List.getElem?_append_right
abbrev Zg := @List.getElem?_append_left
abbrev Zh := @Nat.lt_of_lt_of_le
abbrev Zi := @List.mem_of_getElem?
abbrev Zj := @List.length_take
abbrev Zk := @List.getD_eq_getElem?_getD
abbrev Zl := @List.getElem_mem
abbrev Zm := @Nat.le_refl
abbrev Zn := @List.map_append
abbrev Zo := @List.length_append
abbrev Zp := @List.mem_map
abbrev Zq := @List.take_add_one
abbrev Zr := @List.size_toArray
abbrev Zs := @Nat.ne_of_lt
abbrev Zt := @List.take_length
abbrev Zu := @List.mem_append_right
abbrev Zv := @List.mem_cons_of_mem
abbrev Zw := @Int.toNat_natCast
abbrev Zx := @List.not_mem_nil
abbrev Zy := @List.getElem_of_mem
abbrev Zz := @List.idxOf_lt_length_iff
abbrev ZA := @List.mem_cons_self
abbrev ZB := @Nat.min_le_right
abbrev ZC := @List.mem_singleton
abbrev ZD := @Nat.not_lt
abbrev ZE := @Nat.zero_le
abbrev ZF := @List.lookup_cons
abbrev ZG := @List.take_of_length_le
abbrev ZH := @List.mem_append
abbrev ZI := @List.length_replicate
abbrev ZJ := @Nat.lt_irrefl
abbrev ZK := @List.mem_cons
abbrev ZL := @List.length_cons
abbrev ZM := @List.map_cons
abbrev ZN := @List.cons_append
abbrev ZO := @List.length_eraseIdx_of_lt
abbrev ZP := @List.all_eq_true
abbrev ZQ := @Array.length_toList
abbrev ZR := @List.nil_append
abbrev ZS := @List.mem_filterMap
abbrev ZT := @Nat.lt_of_le_of_lt
abbrev ZU := @Int.emod_lt_of_pos
abbrev ZV := @List.mem_append_left
abbrev ZW := @List.mem_range
abbrev ZX := @List.getElem?_eq_none
abbrev ZY := @List.nodup_cons
abbrev ZZ := @Int.emod_nonneg
abbrev Yb := @Int.toNat_of_nonneg
abbrev Yc := @List.getElem?_eraseIdx
abbrev Yd := @List.eraseIdx_eq_take_drop_succ
abbrev Ye := @List.length_drop
abbrev Yg := @Array.getElem?_eq_some_iff
abbrev Yh := @List.length_range
abbrev Yi := @List.getElem?_of_mem
abbrev Yj := @List.length_reverse
abbrev Yk := @List.getElem?_replicate
abbrev Yl := @List.find?_cons
abbrev Ym := @List.length_nil
abbrev Yn := @List.getElem?_set_self
abbrev Yo := @Nat.lt_succ_of_lt
abbrev Yp := @List.nodup_append
abbrev Yq := @Nat.ne_of_gt
abbrev Yr := @List.length_singleton
abbrev Ys := @List.getElem?_set_ne
abbrev Yt := @Int.le_refl
abbrev Yu := @List.filterMap_cons
abbrev Yv := @List.map_congr_left
abbrev Yw := @List.append_nil
abbrev Yx := @List.range_succ
abbrev Yy := @Nat.not_lt_zero
abbrev Yz := @List.pairwise_iff_getElem
abbrev YA := @List.getElem?_take_of_lt
abbrev YB := @List.mem_of_mem_eraseIdx
abbrev YC := @List.nodup_nil
abbrev YD := @Nat.mul_le_mul
abbrev YE := @Nat.le_succ
abbrev YF := @Nat.lt_succ_self
abbrev YG := @List.mem_flatten
abbrev YH := @List.dropLast_eq_take
abbrev YI := @Option.map_some
abbrev YJ := @List.replicate_succ
abbrev YK := @List.getElem?_drop
abbrev YL := @List.contains_cons
abbrev YM := @List.getElem_idxOf
abbrev YN := @Nat.lt_or_eq_of_le
abbrev YO := @List.map_take
abbrev YQ := @List.ext_getElem?
abbrev YR := @Nat.le_of_lt
abbrev YS := @List.map_nil
abbrev YT := @Nat.succ_le_succ
abbrev YU := @List.of_mem_zip
abbrev YV := @Nat.min_eq_left
-- CHANGE: your row's module here, as the last of these rows
set_option Elab.async false
set_option maxHeartbeats 8000000
set_option linter.all false
set_option maxRecDepth 100000
namespace L2
open PySem PySem.Spec PyProof.Rows
abbrev Key := Sum Int Str
def jw : Key -> Value -> Bool
  | .inl k, v => Value.isInt k v
  | .inr x, v => Value.isStrOf x v
def keyH (w : World) : Key -> Int
  | .inl k => hashInt k
  | .inr x => hashStr w x
theorem xl : ∀ {k : Key} {v : Value}, jw k v = true -> (∃ i t, k = Sum.inl i /\ v = Value.int i t) \/ (∃ x t, k = Sum.inr x /\ v = Value.str x t)
  | .inl i, v, h => by
    obtain ⟨t, e⟩ := Value.isInt_shape (k := i) (v := v) h;exact .inl ⟨i, t, rfl, e⟩
  | .inr x, v, h => by
    obtain ⟨t, e⟩ := Value.isStrOf_shape (x := x) (v := v) h;exact .inr ⟨x, t, rfl, e⟩
theorem zd6 (i : Int) (t : Tok) : jw (.inl i) (.int i t) = true := by simp [jw, Value.isInt]
theorem zfq (x : Str) (t : Tok) : jw (.inr x) (.str x t) = true := by simp [jw, Value.isStrOf]
theorem key_ll (a b : Int) : decide ((Sum.inl a : Key) = Sum.inl b) = (a == b) := by
  by_cases e : a = b
  . subst e; simp
  . have h : ¬ (Sum.inl a : Key) = Sum.inl b := fun q => e (Sum.inl.inj q)
    rw [decide_eq_false h];exact (beq_eq_false_iff_ne.mpr e).symm
theorem key_rr (a b : Str) : decide ((Sum.inr a : Key) = Sum.inr b) = decide (a = b) := by
  by_cases e : a = b
  . subst e; simp
  . have h : ¬ (Sum.inr a : Key) = Sum.inr b := fun q => e (Sum.inr.inj q)
    rw [decide_eq_false h, decide_eq_false e]
theorem key_lr (a : Int) (b : Str) : decide ((Sum.inl a : Key) = Sum.inr b) = false := decide_eq_false (fun q => nomatch q)
theorem key_rl (a : Str) (b : Int) : decide ((Sum.inr a : Key) = Sum.inl b) = false := decide_eq_false (fun q => nomatch q)
def xw (prog : Program) (w : World) : PySem.KeyKind prog w Key where
  is := jw
  hash := keyH w
  inj := fun v a b ha hb => by
    rcases xl ha with ⟨i, t, rfl, rfl⟩ | ⟨x, t, rfl, rfl⟩
    . rcases xl hb with ⟨j, u, rfl, e⟩ | ⟨y, u, rfl, e⟩
      . injection e with e1 _; rw [e1]
      . exact nomatch e
    . rcases xl hb with ⟨j, u, rfl, e⟩ | ⟨y, u, rfl, e⟩
      . exact nomatch e
      . injection e with e1 _; rw [e1]
  byValue := fun k v h => by
    rcases xl h with ⟨i, t, rfl, rfl⟩ | ⟨x, t, rfl, rfl⟩ <;> rfl
  pyHash := fun hv h => by
    rcases xl hv with ⟨i, t, rfl, rfl⟩ | ⟨x, t, rfl, rfl⟩
    . exact wpAny_pyHash_int h
    . exact wpAny_pyHash_str h
  eqBool := fun hu hv h => by
    rcases xl hu with ⟨i, t, rfl, rfl⟩ | ⟨x, t, rfl, rfl⟩
    . rcases xl hv with ⟨j, u, rfl, rfl⟩ | ⟨y, u, rfl, rfl⟩
      . rw [key_ll] at h; exact wpAny_eqBool_int h
      . rw [key_lr] at h; exact SeqAt.EqAt.int_str i t y u _ _ _ _ h
    . rcases xl hv with ⟨j, u, rfl, rfl⟩ | ⟨y, u, rfl, rfl⟩
      . rw [key_rl] at h; exact SeqAt.EqAt.str_int x t j u _ _ _ _ h
      . rw [key_rr] at h; exact wpAny_eqBool_str h
  «strs» := fun k x t v h => by
    rcases xl h with ⟨i, u, rfl, e⟩ | ⟨y, u, rfl, e⟩
    . exact nomatch e
    . injection e with e1 _
      subst e1;cases v <;> rfl
theorem za4 (prog : Program) (w : World) (i : Int) (t : Tok) : (xw prog w).is (.inl i) (.int i t) = true := zd6 i t
theorem zbf (prog : Program) (w : World) (x : Str) (t : Tok) : (xw prog w).is (.inr x) (.str x t) = true := zfq x t
end L2
namespace L2
open PySem PySem.Spec PyProof.Rows
inductive V where
  | non | bl (b : Bool) | int (i : Int) | str (x : Str) | byt (b : Array UInt8) | flt (b : UInt64) | ref (a : Addr) | ty (n : String)
  deriving DecidableEq
def RelV : V -> Value -> Prop
  | .non, u => u = Value.none
  | .bl b, u => u = Value.bool b
  | .int i, u => ∃ t, u = Value.int i t
  | .str x, u => ∃ t, u = Value.str x t
  | .byt b, u => ∃ t, u = Value.bytes b t
  | .flt b, u => ∃ t, u = Value.float b t
  | .ref a, u => u = Value.ref a
  | .ty n, u => u = Value.type n
abbrev Vals : List V -> List Value -> Prop := Paired RelV
theorem Vals.length {xs : List V} {us : List Value} (r : Vals xs us) : xs.length = us.length := Paired.length r
theorem Vals.get : ∀ {xs : List V} {us : List Value} {i : Nat} {x : V}, Vals xs us -> xs[i]? = some x -> ∃ u, us[i]? = some u /\ RelV x u
  | _, _, _, _, .nil, e => by simp at e
  | _, _, 0, _, .cons r _, e => by simp at e; subst e; exact ⟨_, rfl, r⟩
  | _, _, i + 1, x, .cons _ t, e => by
    obtain ⟨u, h1, h2⟩ := Vals.get (i := i) (x := x) t (by simpa using e);exact ⟨u, by simpa using h1, h2⟩
theorem Vals.append : ∀ {xs ys : List V} {us ws : List Value}, Vals xs us -> Vals ys ws -> Vals (xs ++ ys) (us ++ ws)
  | _, _, _, _, .nil, s => s
  | _, _, _, _, .cons r t, s => .cons r (Vals.append t s)
theorem Vals.take : ∀ {xs : List V} {us : List Value} (n : Nat), Vals xs us -> Vals (xs.take n) (us.take n)
  | _, _, 0, _ => .nil
  | _, _, _ + 1, .nil => .nil
  | _, _, n + 1, .cons r t => .cons r (Vals.take n t)
theorem Vals.drop : ∀ {xs : List V} {us : List Value} (n : Nat), Vals xs us -> Vals (xs.drop n) (us.drop n)
  | _, _, 0, r => r
  | _, _, _ + 1, .nil => .nil
  | _, _, n + 1, .cons _ t => Vals.drop n t
def RelO : Option V -> Option Value -> Prop
  | some v, some u => RelV v u
  | none, none => True
  | _, _ => False
def KV {κ : Type} : List (κ × V) -> List (κ × Value) -> Prop := Paired fun (p : κ × V) (q : κ × Value) => p.1 = q.1 /\ RelV p.2 q.2
def kV : Key -> V
  | .inl i => .int i
  | .inr x => .str x
inductive HO where
    | lst (xs : List V)
    | tup (xs : List V)
    | dK (kvs : List (Key × V)) | dT (kvs : List (List Key × V))
    | set (S : Int -> Bool) (n : Nat)
    | ins (C dx : Addr) (fs : List (Str × V))
    | own (x : Addr)
    | xd (fs : List (Str × V))
    | met (f x : Addr)
    | rng (lo hi : Int)
    | frz (o : Obj) (u : HO)
    | tbl (ps : Array Value)
    | ext (φ : Heap -> Prop)
abbrev Hp := Addr -> Option HO
def upd (H : Hp) (a : Addr) (o : HO) : Hp := fun b => if b = a then some o else H b
theorem ze {H : Hp} {a : Addr} {o : HO} : upd H a o a = some o := by unfold upd; rw [if_pos rfl]
theorem zr {H : Hp} {a b : Addr} {o : HO} (h : b ≠ a) : upd H a o b = H b := by unfold upd; rw [if_neg h]
theorem ne_of {H : Hp} {a b : Addr} {o u : HO} (h : H a = some o) (h' : H b = some u) (d : o ≠ u) : a ≠ b := by
  intro e; subst e; rw [h] at h'; exact d (Option.some.inj h')
theorem y6 {H : Hp} {a b : Addr} {o : HO} (h : H a = some o) (h' : H b = none) : a ≠ b := by
  intro e; subst e; rw [h] at h'; cases h'
def IsTupD (h : Heap) (a : Addr) (items : Array Value) : Prop := ∃ o, h.get? a = some o /\ o.cls = .type "tuple" /\ ∃ n, o.data = .seq items n /\ o.dict = none
theorem IsTupD.tup {h : Heap} {a : Addr} {items : Array Value} (q : IsTupD h a items) : IsTup h a items := by
  obtain ⟨o, e, c, n, d, _⟩ := q;exact ⟨o, e, c, n, d⟩
theorem IsTupD.new (h : Heap) (items : Array Value) : IsTupD (h.push { cls := .type "tuple", data := .seq items }) h.objs.size items := ⟨_, Heap.get?_push_size _ rfl, rfl, _, rfl, rfl⟩
section
variable (P : Program) (w : World)
def ObjOk (H : Hp) (h : Heap) (a : Addr) : HO -> Prop
  | .lst xs => xs.length <= sizeLine /\ ∃ (its : List Value) (n : Nat), Vals xs its /\ h.get? a = some { cls := .type "list", data := .seq its.toArray n }
  | .tup xs => xs.length <= sizeLine /\ ∃ its : List Value, Vals xs its /\ IsTupD h a its.toArray
  | .dK kvs => kvs.length <= sizeLine /\ (a == sysModules) = false /\ ∃ vs, KV kvs vs /\ h.DictOf (xw P w) a vs
  | .dT kvs => kvs.length <= sizeLine /\ (a == sysModules) = false /\ ∃ xs : List (List Key × Addr × Value),
      Paired (fun (p : List Key × V) (q : List Key × Addr × Value) => p.1 = q.1 /\ H q.2.1 = some (.tup (p.1.map kV)) /\ RelV p.2 q.2.2) kvs xs /\
      ∃ o es ep, h.get? a = some o /\ o.ExactDict /\ o.data = .dict es ep /\ es.toList = xs.map (entryOfKey (tupleKind (xw P w))) /\ (xs.map (·.1)).Nodup
  | .set S n => h.SetOf (intKind P w) a S n
  | .ins C dx fs => H dx = some (.own a) /\ fs.length <= 1000 /\ dx ≠ a /\ h.get? a = some (PySem.W.instObj C dx) /\
      ∃ mA, h.Ns1 dx mA /\ (∀ f, RelO (fs.lookup f) (mA f)) /\ PySem.Within mA (fs.map (·.1))
  | .own _ => ∃ o, h.get? a = some o
  | .xd fs => ∃ mA, h.Ns1 a mA /\ ∀ f, RelO (fs.lookup f) (mA f)
  | .rng lo hi => ∃ t u v, h.get? a = some { cls := .type "range", data := .fields #[.int lo t, .int hi u, .int 1 v] }
  | .frz o u => h.get? a = some o /\ ObjOk H h a u
  | .tbl ps => h.get? a = some { cls := .none, data := .fields ps }
  | .met f x => h.get? a = some (PySem.W.methodObj (.ref f) (.ref x))
  | .ext φ => φ h /\ (∃ o, h.get? a = some o) /\ ∀ h1 h2 : Heap, φ h1 -> (∀ o, h1.get? a = some o -> h2.get? a = some o) -> φ h2
def HOk (H : Hp) (h : Heap) : Prop := ∀ a o, H a = some o -> ObjOk P w H h a o
end
section
variable {P : Program} {w : World} {H H' : Hp} {h h' : Heap} {a : Addr} {o : HO}
theorem ObjOk.lt (x : ObjOk P w H h a o) : a < h.objs.size := by
  cases o with
  | lst xs => obtain ⟨_, _, _, _, e⟩ := x; exact Heap.lt_size e
  | tup xs => obtain ⟨_, _, _, p⟩ := x; exact p.tup.lt
  | dK kvs => obtain ⟨_, _, _, _, o, _, _, e, _⟩ := x; exact Heap.lt_size e
  | dT kvs => obtain ⟨_, _, _, _, o, _, _, e, _⟩ := x; exact Heap.lt_size e
  | set S n => obtain ⟨o, _, _, _, e, _⟩ := x; exact Heap.lt_size e
  | ins C dx fs => obtain ⟨_, _, _, e, _⟩ := x; exact Heap.lt_size e
  | own y => obtain ⟨_, e⟩ := x; exact Heap.lt_size e
  | xd fs => obtain ⟨_, ⟨_, _, _, e, _⟩, _⟩ := x; exact Heap.lt_size e
  | rng lo hi => obtain ⟨_, _, _, e⟩ := x; exact Heap.lt_size e
  | frz ob u => obtain ⟨e, _⟩ := x; exact Heap.lt_size e
  | tbl ps => exact Heap.lt_size (show h.get? a = some _ from x)
  | met f y => exact Heap.lt_size (show h.get? a = some _ from x)
  | ext φ => obtain ⟨_, ⟨_, e⟩, _⟩ := x; exact Heap.lt_size e
theorem Paired.mapP {α β : Type} {F G : α -> β -> Prop} : ∀ {l₁ : List α} {l₂ : List β}, Paired F l₁ l₂ -> (∀ a b, F a b -> G a b) -> Paired G l₁ l₂
  | _, _, .nil, _ => .nil
  | _, _, .cons r t, f => .cons (f _ _ r) (Paired.mapP t f)
theorem ObjOk.stay (x : ObjOk P w H h a o) (k : ∀ b u, (b = a \/ H b = some (.own a)) -> h.get? b = some u -> h'.get? b = some u)
    (ho : ∀ b, H b = some (.own a) -> H' b = some (.own a)) (ht : ∀ b xs, H b = some (.tup xs) -> H' b = some (.tup xs)) : ObjOk P w H' h' a o := by
  induction o with
  | lst xs => obtain ⟨z, its, n, r, e⟩ := x; exact ⟨z, its, n, r, k _ _ (.inl rfl) e⟩
  | tup xs => obtain ⟨z, its, r, ob, e, c⟩ := x; exact ⟨z, its, r, ob, k _ _ (.inl rfl) e, c⟩
  | dK kvs => obtain ⟨z, y, vs, r, ob, es, ep, e, c⟩ := x; exact ⟨z, y, vs, r, ob, es, ep, k _ _ (.inl rfl) e, c⟩
  | dT kvs =>
    obtain ⟨z, y, xs, r, ob, es, ep, e, c⟩ := x;exact ⟨z, y, xs, Paired.mapP r fun p q z => ⟨z.1, ht _ _ z.2.1, z.2.2⟩, ob, es, ep, k _ _ (.inl rfl) e, c⟩
  | set S n => obtain ⟨ob, es, ep, t, e, c⟩ := x; exact ⟨ob, es, ep, t, k _ _ (.inl rfl) e, c⟩
  | ins C dx fs =>
    obtain ⟨d, z, ne, e, mA, ⟨od, es, ep, e2, c⟩, r⟩ := x;exact ⟨ho _ d, z, ne, k _ _ (.inl rfl) e, mA, ⟨od, es, ep, k _ _ (.inr d) e2, c⟩, r⟩
  | own y => obtain ⟨ob, e⟩ := x; exact ⟨ob, k _ _ (.inl rfl) e⟩
  | xd fs => obtain ⟨mA, ⟨od, es, ep, e, c⟩, r⟩ := x; exact ⟨mA, ⟨od, es, ep, k _ _ (.inl rfl) e, c⟩, r⟩
  | rng lo hi => obtain ⟨t, u, v, e⟩ := x; exact ⟨t, u, v, k _ _ (.inl rfl) e⟩
  | frz ob u ih => obtain ⟨e, q⟩ := x; exact ⟨k _ _ (.inl rfl) e, ih q⟩
  | tbl ps =>
    have e : h.get? a = some { cls := .none, data := .fields ps } := x
    show h'.get? a = some { cls := .none, data := .fields ps }
    exact k a _ (.inl rfl) e
  | met f y =>
    have e : h.get? a = some (PySem.W.methodObj (.ref f) (.ref y)) := x
    show h'.get? a = some (PySem.W.methodObj (.ref f) (.ref y))
    exact k a _ (.inl rfl) e
  | ext φ => obtain ⟨p, ⟨o, e⟩, st⟩ := x; exact ⟨st _ _ p fun o q => k _ _ (.inl rfl) q, ⟨o, k _ _ (.inl rfl) e⟩, st⟩
theorem HOk.lt (x : HOk P w H h) (e : H a = some o) : a < h.objs.size := (x a o e).lt
theorem HOk.fresh (x : HOk P w H h) (e : h.objs.size <= a) : H a = none := by
  cases q : H a with
  | none => rfl
  | some u => exact absurd (Zh (x.lt q) e) (ZJ _)
theorem HOk.kept (x : HOk P w H h) (k : ∀ b u, h.get? b = some u -> h'.get? b = some u) : HOk P w H h' := fun a o e =>
  (x a o e).stay (fun b u _ q => k b u q) (fun _ q => q) fun _ _ q => q
theorem HOk.laid (x : HOk P w H h) (k : ∀ b u, h.get? b = some u -> h'.get? b = some u) (hp : h.objs.size <= a) (new : ObjOk P w (upd H a o) h' a o) : HOk P w (upd H a o) h' := fun b u e => by
  have hn := x.fresh hp
  by_cases hb : b = a
  . subst hb; rw [ze] at e; cases e; exact new
  . rw [zr hb] at e
    exact (x b u e).stay (fun c v _ q => k c v q) (fun c q => by rw [zr (y6 q hn)]; exact q) fun c xs q => by rw [zr (y6 q hn)]; exact q
end
def Rd (H : Hp) (a : Addr) (u : HO) : Prop := H a = some u \/ ∃ o, H a = some (.frz o u)
theorem Rd.of {H : Hp} {a : Addr} {u : HO} (h : H a = some u) : Rd H a u := .inl h
theorem Rd.ok {P : Program} {w : World} {H : Hp} {h : Heap} {a : Addr} {u : HO} (r : Rd H a u) (x : HOk P w H h) : ObjOk P w H h a u := by
  rcases r with r | ⟨o, r⟩
  . exact x a u r
  . obtain ⟨_, q⟩ := x a _ r
    exact q
def Mut : Option HO -> Prop
  | some (.lst _) => True
  | some (.dK _) => True
  | some (.dT _) => True
  | some (.set _ _) => True
  | some (.ins _ _ _) => True
  | some (.ext _) => True
  | _ => False
section
variable {P : Program} {w : World} {H : Hp} {h h' : Heap} {x e : Addr} {o' : HO}
theorem HOk.write (ok : HOk P w H h) (mu : Mut (H x)) (he : e = x \/ H e = some (.own x)) (k : ∀ b u, b ≠ e -> h.get? b = some u -> h'.get? b = some u) (heo : ∃ u, h'.get? e = some u)
    (new : ObjOk P w (upd H x o') h' x o') : HOk P w (upd H x o') h' := fun b u q => by
  have nown : ∀ c y, H c = some (.own y) -> c ≠ x := fun c y r z => by subst z; rw [r] at mu; exact mu
  have ntup : ∀ c xs, H c = some (.tup xs) -> c ≠ x := fun c xs r z => by subst z; rw [r] at mu; exact mu
  by_cases hb : b = x
  . subst hb; rw [ze] at q; cases q; exact new
  . rw [zr hb] at q
    by_cases hbe : b = e
    . have q' : H b = some (.own x) := by
        rcases he with z | z
        . exact absurd (hbe.trans z) hb
        . rw [hbe]; exact z
      rw [q] at q'; cases q';obtain ⟨v, hv⟩ := heo;exact ⟨v, by rw [hbe]; exact hv⟩
    . refine (ok b u q).stay (fun c v hc r => k c v ?_ r) (fun c r => by rw [zr (nown c b r)]; exact r) fun c xs r => by rw [zr (ntup c xs r)]; exact r
      rcases hc with rfl | hc
      . exact hbe
      . rintro rfl
        rcases he with z | z
        . exact nown c b hc z
        . rw [hc] at z; cases z; exact hb rfl
end
structure Un (fs ex : List Addr) (H H' : Hp) (h h' : Heap) : Prop where
  keep : ∀ b o, h.get? b = some o -> H b = none -> b ∉ fs -> b ∉ ex -> h'.get? b = some o
  slot : ∀ b o, h.get? b = some o -> H b = none -> b ∈ fs -> b ∉ ex -> ∃ sl, h'.get? b = some { o with slots := sl }
  free : ∀ b o, h.get? b = some o -> H b = none -> b ∉ ex -> H' b = none
  there : ∀ b o, h.get? b = some o -> b ∉ ex -> ∃ o', h'.get? b = some o'
  tups : ∀ b xs, H b = some (.tup xs) -> H' b = some (.tup xs)
  frzs : ∀ b o u, H b = some (.frz o u) -> H' b = some (.frz o u)
  tbls : ∀ b ps, H b = some (.tbl ps) -> ∃ more, H' b = some (.tbl (ps ++ more))
section
variable {fs fs' ex ex' : List Addr} {H H1 H2 : Hp} {h h1 h2 h' : Heap} {a x e : Addr} {o : HO}
theorem Un.any (u : Un fs ex H H1 h h1) {b : Addr} {ob : Obj} (q : h.get? b = some ob) (n : H b = none) (hx : b ∉ ex) : ∃ sl, h1.get? b = some { ob with slots := sl } := by
  by_cases hb : b ∈ fs
  . exact u.slot b ob q n hb hx
  . exact ⟨ob.slots, u.keep b ob q n hb hx⟩
theorem Un.trans (a : Un fs ex H H1 h h1) (b : Un fs ex H1 H2 h1 h2) : Un fs ex H H2 h h2 where
  keep := fun c ob q n hc hx => b.keep c ob (a.keep c ob q n hc hx) (a.free c ob q n hx) hc hx
  slot := fun c ob q n hc hx => by
    obtain ⟨sl, e1⟩ := a.slot c ob q n hc hx;obtain ⟨sl', e2⟩ := b.slot c _ e1 (a.free c ob q n hx) hc hx;exact ⟨sl', e2⟩
  free := fun c ob q n hx => by
    obtain ⟨o', e1⟩ := a.there c ob q hx;exact b.free c o' e1 (a.free c ob q n hx) hx
  there := fun c ob q hx => by
    obtain ⟨o', e1⟩ := a.there c ob q hx;exact b.there c o' e1 hx
  tups := fun c xs q => b.tups c xs (a.tups c xs q)
  frzs := fun c ob xs q => b.frzs c ob xs (a.frzs c ob xs q)
  tbls := fun c ps q => by
    obtain ⟨m1, e1⟩ := a.tbls c ps q;obtain ⟨m2, e2⟩ := b.tbls c _ e1;exact ⟨m1 ++ m2, by rw [e2, Array.append_assoc]⟩
theorem Un.kept (k : ∀ b u, h.get? b = some u -> h'.get? b = some u) : Un fs ex H H h h' :=
  ⟨fun b ob q _ _ _ => k b ob q, fun b ob q _ _ _ => ⟨ob.slots, k b ob q⟩, fun _ _ _ n _ => n, fun b ob q _ => ⟨ob, k b ob q⟩, fun _ _ q => q, fun _ _ _ q => q, fun _ ps q => ⟨#[], by rw [q]; simp⟩⟩
theorem Un.refl : Un fs ex H H h h := Un.kept fun _ _ q => q
theorem Un.laid (k : ∀ b u, h.get? b = some u -> h'.get? b = some u) (hp : h.objs.size <= a) (hn : H a = none) : Un fs ex H (upd H a o) h h' where
  keep := fun b u q _ _ _ => k b u q
  slot := fun b u q _ _ _ => ⟨u.slots, k b u q⟩
  free := fun b u q n _ => by rw [zr (Zs (Zh (Heap.lt_size q) hp))]; exact n
  there := fun b u q _ => ⟨u, k b u q⟩
  tups := fun b xs q => by rw [zr (y6 q hn)]; exact q
  frzs := fun b u xs q => by rw [zr (y6 q hn)]; exact q
  tbls := fun b ps q => ⟨#[], by rw [zr (y6 q hn), q]; simp⟩
theorem Un.write (mu : Mut (H x)) (he : e = x \/ H e = some (.own x)) (k : ∀ b u, b ≠ e -> h.get? b = some u -> h'.get? b = some u) (heo : ∃ u, h'.get? e = some u) : Un fs ex H (upd H x o) h h' := by
  have hx : ∀ b, H b = none -> b ≠ x := fun b n z => by subst z; rw [n] at mu; exact mu
  have hb : ∀ b, H b = none -> b ≠ e := fun b n z => by
    subst z
    rcases he with r | r
    . exact hx b n r
    . rw [n] at r; cases r
  have hm : ∀ b u, H b = some u -> ¬ Mut (some u) -> b ≠ x := fun b u q nm z => by subst z; rw [q] at mu; exact nm mu
  refine ⟨fun b u q n _ _ => k b u (hb b n) q, fun b u q n _ _ => ⟨u.slots, k b u (hb b n) q⟩, fun b u q n _ => by rw [zr (hx b n)]; exact n, fun b u q _ => ?_,
    fun b xs q => by rw [zr (hm b _ q fun z => z)]; exact q, fun b u xs q => by rw [zr (hm b _ q fun z => z)]; exact q, fun b ps q => ⟨#[], by rw [zr (hm b _ q fun z => z), q]; simp⟩⟩
  by_cases hbe : b = e
  . subst hbe; exact heo
  . exact ⟨u, k b u hbe q⟩
theorem Un.mono (u : Un fs ex H H1 h h1) (hs : ∀ b ∈ fs, b ∈ fs') (hx : ∀ b ∈ ex, b ∈ ex') : Un fs' ex' H H1 h h1 :=
  ⟨fun b ob q n hb he => u.keep b ob q n (fun z => hb (hs b z)) fun z => he (hx b z), fun _ _ q n _ he => u.any q n fun z => he (hx _ z), fun b ob q n he => u.free b ob q n fun z => he (hx b z), fun b ob q he => u.there b ob q fun z => he (hx b z), u.tups, u.frzs, u.tbls⟩
end
def trk (h : Heap) (H : Hp) : List Addr := (List.range h.objs.size).filter fun a => (H a).isSome
def hidT (h : Heap) (H : Hp) : Heap := PySem.W.hideAll h (trk h H)
theorem zd8 (h : Heap) (H : Hp) : (hidT h H).objs.size = h.objs.size := PySem.W.hideAll_size _ _
theorem zgi {h : Heap} {H : Hp} {b : Addr} {o : Obj} (e : h.get? b = some o) (n : H b = none) : (hidT h H).get? b = some o :=
  PySem.W.hideAll_get _ e fun hm => by
    have q : (H b).isSome = true := (List.mem_filter.mp hm).2;rw [n] at q; simp at q
theorem zhg {h : Heap} {H : Hp} {b : Addr} {o : Obj} (e : (hidT h H).get? b = some o) : h.get? b = some o /\ H b = none := by
  have e' : h.get? b = some o := PySem.W.of_hideAll (trk h H) e;refine ⟨e', ?_⟩
  cases q : H b with
  | none => rfl
  | some x =>
    have hm : b ∈ trk h H := List.mem_filter.mpr ⟨ZW.mpr (Heap.lt_size e'), by simp [q]⟩;have z : (hidT h H).get? b = none := PySem.W.hideAll_none (trk h H) hm;rw [z] at e; cases e
def zg2 (g h : Heap) (L : Addr) : List (Addr × Obj) := (List.range h.objs.size).filterMap fun a => if a = L \/ (g.get? a).isSome = true then none else (h.get? a).map fun o => (a, o)
def rest (g h : Heap) (L d : Addr) : List (Addr × Obj) := (zg2 g h L).filter fun p => decide (p.1 ≠ d)
end L2
namespace L2
open PySem PySem.Spec PyProof.Rows
structure Mod (K : Fg) (mg : Str -> Option Value) (base : Heap) : Prop where
  kin : K.In base
  glob : base.Ns mainGlobals mg
  blt : ∃ mb, base.Ns builtinsNs mb /\ ∀ x : Str, x ≠ "__name__" -> mb x = bootBuiltins x
  nolimit : base.NoLimit
structure Cx where
  prog : Program
  w : World
  K : Fg
  mg : Str -> Option Value
  base : Heap
  A : Around
  N : List Str
  s₀ : Shared
  H₀ : Hp
  env : Env
  outer : List Env
  stack : List Env
  ex : List Addr
  fn : Str -> Bool
  calm : Bool
  pn : List (Addr × Obj)
  xe : Value -> Shared -> Prop
def frs (l : List Env) : List Addr := l.filterMap (·.frame)
abbrev Cx.fs (X : Cx) : List Addr := frs X.outer
def Vis (sc : Scope) (x : Str) : Prop := sc.names.lookup x = some .local \/ sc.names.lookup x = some .cell \/ sc.names.lookup x = some .free
def Loc (sc : Scope) (x : Str) : Prop := sc.names.lookup x = some .local \/ sc.names.lookup x = some .cell
def Look (env : Env) (h : Heap) (m : Str -> Option Value) (x : Str) (u : Value) : Prop :=
  (env.kindOf x = some .local /\ m x = some u) \/ ((env.kindOf x = some .cell \/ env.kindOf x = some .free) /\ ∃ c, env.cells.lookup x = some c /\ h.IsCell c (some u))
structure Cx.Ok (X : Cx) : Prop where
  mod : Mod X.K X.mg X.base
  kind : X.env.scope.kind = .function
  glob : X.env.globals = mainGlobals
  blt : X.env.builtins = builtinsNs
  above : X.s₀.heap.objs.size <= X.env.locals
  inj : ∀ x y c, X.env.cells.lookup x = some c -> X.env.cells.lookup y = some c -> x = y
  has : ∀ x, (X.env.kindOf x = some .cell \/ X.env.kindOf x = some .free) -> ∃ c, X.env.cells.lookup x = some c
  cab : ∀ x c, X.fn x = true -> X.env.cells.lookup x = some c -> X.s₀.heap.objs.size <= c
  hd : X.calm = true -> X.A.handled = none
  frames : X.A.frames = some X.stack
  stk : X.stack = X.outer \/ (X.stack = X.env :: X.outer /\ X.env.frame = some X.env.locals)
  exf : ∀ b ∈ X.ex, b ≠ X.env.locals /\ ∀ x c, X.env.cells.lookup x = some c -> c ≠ b
  bs : ∀ b o, X.base.get? b = some o -> X.s₀.heap.get? b = some o /\ X.H₀ b = none
  bsz : X.base.objs.size <= X.s₀.heap.objs.size
  noex : ∀ b o, X.base.get? b = some o -> b ∉ X.ex
  exfs : ∀ b ∈ X.ex, b ∉ X.fs
  funs : X.s₀.heap.FunFrames X.base X.outer
  frf : ∀ b ∈ X.fs, X.H₀ b = none
structure Inv (X : Cx) (pins : List (Addr × Obj)) (σ : List (Option V)) (H : Hp) (s : Shared) : Prop where
  ok : X.Ok
  os : s.os = X.s₀.os
  bare : AllBare s.gens
  base : Un X.fs X.ex X.H₀ H X.s₀.heap s.heap
  loc : ∃ m, s.heap.Ns X.env.locals m /\ ∀ (i : Nat) (x : Str) (v : V), X.N[i]? = some x -> σ[i]? = some (some v) -> Vis X.env.scope x -> ∃ u, RelV v u /\ Look X.env s.heap m x u
  cell : ∀ x c, X.env.cells.lookup x = some c -> ∃ v, s.heap.IsCell c v
  free : H X.env.locals = none
  freeC : ∀ x c, X.env.cells.lookup x = some c -> H c = none
  pin : ∀ p ∈ X.pn ++ pins, s.heap.get? p.1 = some p.2 /\ H p.1 = none /\ p.1 ≠ X.env.locals /\ p.1 ∉ X.fs /\ ∀ v, p.2.data ≠ .cell v
  hok : HOk X.prog X.w H s.heap
  len : σ.length = X.N.length
section
variable {X : Cx} {pins : List (Addr × Obj)} {σ : List (Option V)} {H H' : Hp} {s : Shared} {h' : Heap}
theorem Cx.Ok.nofr (ok : X.Ok) {b : Addr} {o : Obj} (e : X.base.get? b = some o) : b ∉ X.fs := fun hb => by
  have := (ok.funs.mem hb).1;rw [e] at this; cases this
theorem Inv.bs (I : Inv X pins σ H s) : ∀ b o, X.base.get? b = some o -> s.heap.get? b = some o /\ H b = none := fun b o e =>
  ⟨I.base.keep b o (I.ok.bs b o e).1 (I.ok.bs b o e).2 (I.ok.nofr e) (I.ok.noex b o e), I.base.free b o (I.ok.bs b o e).1 (I.ok.bs b o e).2 (I.ok.noex b o e)⟩
theorem Inv.bk (I : Inv X pins σ H s) : ∀ b o, X.base.get? b = some o -> s.heap.get? b = some o := fun b o e => (I.bs b o e).1
theorem Inv.mod (I : Inv X pins σ H s) : Mod X.K X.mg X.base := I.ok.mod
theorem Inv.kIn (I : Inv X pins σ H s) : X.K.In s.heap := I.ok.mod.kin.keeps I.bk
theorem Inv.lt (I : Inv X pins σ H s) : X.env.locals < s.heap.objs.size := let ⟨_, hn, _⟩ := I.loc; hn.lt
theorem Inv.sz (I : Inv X pins σ H s) : X.s₀.heap.objs.size <= s.heap.objs.size := Zd I.ok.above (YR I.lt)
theorem Inv.nofs (I : Inv X pins σ H s) {a : Addr} (h : s.heap.objs.size <= a) : a ∉ X.fs := fun hb => by
  obtain ⟨_, o, ho, _⟩ := I.ok.funs.mem hb;exact absurd (Zh (Heap.lt_size ho) (Zd I.sz h)) (ZJ _)
theorem Inv.cne (I : Inv X pins σ H s) : ∀ x c, X.env.cells.lookup x = some c -> c ≠ X.env.locals := fun x c e z => by
  obtain ⟨v, o, ho, hd⟩ := I.cell x c e;obtain ⟨m, ⟨o', es, ep, ho', hd', _⟩, _⟩ := I.loc;rw [z, ho'] at ho; cases ho; rw [hd'] at hd; cases hd
theorem Inv.funs (I : Inv X pins σ H s) : s.heap.FunFrames X.base X.outer := by
  have all : ∀ (l : List Env), (∀ b ∈ frs l, b ∈ X.fs) -> X.s₀.heap.FunFrames X.base l -> s.heap.FunFrames X.base l := by
    intro l
    induction l with
    | nil => intro _ _; trivial
    | cons env r ih =>
      intro hs hl;obtain ⟨hk, ⟨L, o, hf, hn, ho, hd⟩, hr⟩ := hl;have hL : L ∈ X.fs := hs L (by unfold frs; rw [Yu, hf]; exact ZA);obtain ⟨sl, e⟩ := I.base.slot L o ho (I.ok.frf L hL) hL fun z => I.ok.exfs L z hL
      exact ⟨hk, ⟨L, _, hf, hn, e, hd⟩, ih (fun b hb => hs b (by unfold frs; rw [Yu, hf]; exact Zv _ hb)) hr⟩
  exact all X.outer (fun _ hb => hb) I.ok.funs
theorem Inv.stack (I : Inv X pins σ H s) : s.heap.FunFrames X.base X.stack := by
  rcases I.ok.stk with e | ⟨e, hf⟩
  . rw [e]; exact I.funs
  . rw [e]
    obtain ⟨m, hn, _⟩ := I.loc;refine .cons (by rw [I.ok.kind]; decide) hf hn ?_ I.funs;exact Heap.get?_none_of_le (Zd I.ok.bsz I.ok.above)
theorem Inv.stkSub (I : Inv X pins σ H s) : ∀ b ∈ frs X.stack, b ∈ X.env.locals :: X.fs := fun b hb => by
  rcases I.ok.stk with e | ⟨e, hf⟩
  . rw [e] at hb; exact Zv _ hb
  . rw [e] at hb
    unfold frs at hb;rw [Yu, hf] at hb;exact hb
theorem Inv.stkFree (I : Inv X pins σ H s) : ∀ b ∈ frs X.stack, H b = none := fun b hb => by
  rcases ZK.mp (I.stkSub b hb) with e | hb
  . rw [e]; exact I.free
  . obtain ⟨_, o, ho, _⟩ := I.ok.funs.mem hb
    exact I.base.free b o ho (I.ok.frf b hb) fun z => I.ok.exfs b z hb
theorem Inv.step {g' : Array GenState} {t' : Nat} {d' : Drawn} {ch : List Addr} (I : Inv X pins σ H s)
    (hch : ∀ b ∈ ch, (b ∈ X.ex \/ X.s₀.heap.objs.size <= b) /\ b ≠ X.env.locals /\ (∀ x c, X.env.cells.lookup x = some c -> c ≠ b) /\ ∀ p ∈ X.pn ++ pins, p.1 ≠ b)
    (keep : ∀ b o, b ≠ X.env.locals -> b ∉ X.fs -> b ∉ ch -> s.heap.get? b = some o -> H b = none -> h'.get? b = some o)
    (slot : ∀ b o, b ≠ X.env.locals -> b ∈ X.fs -> b ∉ ch -> s.heap.get? b = some o -> H b = none -> ∃ sl, h'.get? b = some { o with slots := sl }) (free : ∀ b o, b ∉ ch -> s.heap.get? b = some o -> H b = none -> H' b = none)
    (there : ∀ b o, b ∉ ch -> s.heap.get? b = some o -> ∃ o', h'.get? b = some o')
    (tups : ∀ b xs, H b = some (.tup xs) -> H' b = some (.tup xs)) (frzs : ∀ b o u, H b = some (.frz o u) -> H' b = some (.frz o u)) (tbls : ∀ b ps, H b = some (.tbl ps) -> ∃ more, H' b = some (.tbl (ps ++ more)))
    (ns : ∀ m, s.heap.Ns X.env.locals m -> h'.Ns X.env.locals m) (hok : HOk X.prog X.w H' h') (hg : AllBare g') :
    Inv X pins σ H' { s with heap := h', gens := g', drawn := d', toks := t' } := by
  have neL : ∀ b o, X.s₀.heap.get? b = some o -> b ≠ X.env.locals := fun b o e => Zs (Zh (Heap.lt_size e) I.ok.above)
  have neC : ∀ b o, X.s₀.heap.get? b = some o -> b ∉ X.ex -> b ∉ ch := fun b o e hx hb => by
    rcases (hch b hb).1 with z | z
    . exact hx z
    . exact absurd (Zh (Heap.lt_size e) z) (ZJ _)
  have cellK : ∀ x c, X.env.cells.lookup x = some c -> ∀ v, s.heap.IsCell c v -> h'.IsCell c v := fun x c e v ⟨o, ho, hd⟩ => by
    have nch : c ∉ ch := fun z => (hch c z).2.2.1 x c e rfl
    by_cases hc : c ∈ X.fs
    . obtain ⟨sl, q⟩ := slot c o (I.cne x c e) hc nch ho (I.freeC x c e)
      exact ⟨_, q, hd⟩
    . exact ⟨o, keep c o (I.cne x c e) hc nch ho (I.freeC x c e), hd⟩
  refine ⟨I.ok, I.os, hg, ⟨fun b o e n hb hx => ?_, fun b o e n hb hx => ?_, fun b o e n hx => ?_, fun b o e hx => ?_, fun b xs e => tups b xs (I.base.tups b xs e), fun b o xs e => frzs b o xs (I.base.frzs b o xs e), fun b ps e => ?_⟩, ?_, fun x c e => ?_, ?_, fun x c e => ?_, fun p hp => ?_, hok, I.len⟩
  . exact keep b o (neL b o e) hb (neC b o e hx) (I.base.keep b o e n hb hx) (I.base.free b o e n hx)
  . obtain ⟨sl, e1⟩ := I.base.slot b o e n hb hx
    obtain ⟨sl', e2⟩ := slot b _ (neL b o e) hb (neC b o e hx) e1 (I.base.free b o e n hx);exact ⟨sl', e2⟩
  . obtain ⟨o', e1⟩ := I.base.there b o e hx
    exact free b o' (neC b o e hx) e1 (I.base.free b o e n hx)
  . obtain ⟨o', e1⟩ := I.base.there b o e hx
    exact there b o' (neC b o e hx) e1
  . obtain ⟨m1, e1⟩ := I.base.tbls b ps e
    obtain ⟨m2, e2⟩ := tbls b _ e1;exact ⟨m1 ++ m2, by rw [e2, Array.append_assoc]⟩
  . obtain ⟨m, hn, hl⟩ := I.loc
    refine ⟨m, ns m hn, fun i x v e1 e2 e3 => ?_⟩;obtain ⟨u, r, l⟩ := hl i x v e1 e2 e3;refine ⟨u, r, ?_⟩
    rcases l with l | ⟨k, c, e, z⟩
    . exact .inl l
    . exact .inr ⟨k, c, e, cellK x c e _ z⟩
  . obtain ⟨v, z⟩ := I.cell x c e
    exact ⟨v, cellK x c e v z⟩
  . obtain ⟨m, ⟨o, _, _, ho, _⟩, _⟩ := I.loc
    exact free _ o (fun z => (hch _ z).2.1 rfl) ho I.free
  . obtain ⟨v, o, ho, hd⟩ := I.cell x c e
    exact free c o (fun z => (hch c z).2.2.1 x c e rfl) ho (I.freeC x c e)
  . obtain ⟨e, n, ne, nf, d⟩ := I.pin p hp
    have nch : p.1 ∉ ch := fun z => (hch p.1 z).2.2.2 p hp rfl
    exact ⟨keep p.1 p.2 ne nf nch e n, free p.1 p.2 nch e n, ne, nf, d⟩
theorem Inv.un {t' : Nat} (I : Inv X pins σ H s) (u : Un X.fs [] H H' s.heap h') (hok : HOk X.prog X.w H' h') : Inv X pins σ H' { s with heap := h', toks := t' } := by
  obtain ⟨m, ⟨o, es, ep, ho, r⟩, _⟩ := id I.loc;obtain ⟨sl, hL⟩ := u.any ho I.free (by simp)
  exact I.step (g' := s.gens) (d' := s.drawn) (ch := []) (fun _ z => nomatch z) (fun b o _ hb _ e n => u.keep b o e n hb (by simp)) (fun b o _ hb _ e n => u.slot b o e n hb (by simp)) (fun b o _ e n => u.free b o e n (by simp)) (fun b o _ e => u.there b o e (by simp)) u.tups u.frzs u.tbls (fun m' hm => by
    obtain ⟨o', es', ep', ho', r'⟩ := hm;rw [ho] at ho'; cases ho'
    exact ⟨_, es', ep', hL, r'⟩) hok I.bare
theorem Inv.call {g' : Array GenState} {t' : Nat} {d' : Drawn} {ch : List Addr} (I : Inv X pins σ H s) (u : Un (frs X.stack) ch H H' s.heap h') (hok : HOk X.prog X.w H' h') (hg : AllBare g')
    (hch : ∀ b ∈ ch, (b ∈ X.ex \/ X.s₀.heap.objs.size <= b) /\ b ≠ X.env.locals /\ (∀ x c, X.env.cells.lookup x = some c -> c ≠ b) /\ ∀ p ∈ X.pn ++ pins, p.1 ≠ b) :
    Inv X pins σ H' { s with heap := h', gens := g', drawn := d', toks := t' } := by
  obtain ⟨m, ⟨o, es, ep, ho, r⟩, _⟩ := id I.loc;obtain ⟨sl, hL⟩ := u.any ho I.free fun z => (hch _ z).2.1 rfl
  exact I.step (ch := ch) hch (fun b o hL hb hc e n => u.keep b o e n (fun z => (ZK.mp (I.stkSub b z)).elim hL hb) hc) (fun b o _ _ hc e n => u.any e n hc) (fun b o hc e n => u.free b o e n hc) (fun b o hc e => u.there b o e hc) u.tups u.frzs u.tbls (fun m' hm => by
    obtain ⟨o', es', ep', ho', r'⟩ := hm;rw [ho] at ho'; cases ho'
    exact ⟨_, es', ep', hL, r'⟩) hok hg
theorem Inv.turned {t' : Nat} {it : Addr} (I : Inv X pins σ H s) (k : ∀ b o, b ≠ it -> s.heap.get? b = some o -> h'.get? b = some o) (hn : H it = none) (hL : it ≠ X.env.locals)
    (h1 : it ∈ X.ex \/ X.s₀.heap.objs.size <= it) (h2 : ∀ x c, X.env.cells.lookup x = some c -> c ≠ it) (h3 : ∀ p ∈ X.pn ++ pins, p.1 ≠ it) : Inv X pins σ H { s with heap := h', toks := t' } := by
  have nit : ∀ b u, H b = some u -> b ≠ it := fun b u e z => by rw [z, hn] at e; cases e
  refine I.step (g' := s.gens) (d' := s.drawn) (ch := [it]) (fun b hb => ?_) (fun b o _ _ hc e _ => k b o (fun z => hc (by simp [z])) e) (fun b o _ _ hc e _ => ⟨o.slots, k b o (fun z => hc (by simp [z])) e⟩) (fun _ _ _ _ n => n)
    (fun b o hc e => ⟨o, k b o (fun z => hc (by simp [z])) e⟩) (fun _ _ e => e) (fun _ _ _ e => e) (fun b ps e => ⟨#[], by rw [e]; simp⟩) (fun m hm => ?_) (fun b u e => ?_) I.bare
  . have e : b = it := by simpa using hb
    subst e;exact ⟨h1, hL, h2, h3⟩
  . obtain ⟨o, es, ep, ho, r⟩ := hm
    exact ⟨o, es, ep, k _ o (Ne.symm hL) ho, r⟩
  . refine (I.hok b u e).stay (fun c v hc q => k c v ?_ q) (fun _ q => q) fun _ _ q => q
    rcases hc with z | z
    . rw [z]; exact nit b u e
    . exact nit c _ z
theorem Inv.tok (I : Inv X pins σ H s) (t : Nat) : Inv X pins σ H { s with toks := t } := I.un (h' := s.heap) (t' := t) Un.refl I.hok
theorem Inv.kept {t' : Nat} (I : Inv X pins σ H s) (k : ∀ b u, s.heap.get? b = some u -> h'.get? b = some u) : Inv X pins σ H { s with heap := h', toks := t' } := I.un (Un.kept k) (I.hok.kept k)
theorem Inv.laid {a : Addr} {o : HO} {t' : Nat} (I : Inv X pins σ H s) (k : ∀ b u, s.heap.get? b = some u -> h'.get? b = some u) (hp : s.heap.objs.size <= a) (new : ObjOk X.prog X.w (upd H a o) h' a o) :
    Inv X pins σ (upd H a o) { s with heap := h', toks := t' } := I.un (Un.laid k hp (I.hok.fresh hp)) (I.hok.laid k hp new)
theorem Inv.write {x e : Addr} {o : HO} {t' : Nat} (I : Inv X pins σ H s) (mu : Mut (H x)) (he : e = x \/ H e = some (.own x)) (k : ∀ b u, b ≠ e -> s.heap.get? b = some u -> h'.get? b = some u) (heo : ∃ u, h'.get? e = some u)
    (new : ObjOk X.prog X.w (upd H x o) h' x o) : Inv X pins σ (upd H x o) { s with heap := h', toks := t' } := I.un (Un.write mu he k heo) (I.hok.write mu he k heo new)
theorem Inv.weak {σ' : List (Option V)} (I : Inv X pins σ H s) (hl : σ'.length = σ.length) (w : ∀ (i : Nat) v, σ'[i]? = some (some v) -> σ[i]? = some (some v)) : Inv X pins σ' H s :=
  ⟨I.ok, I.os, I.bare, I.base, let ⟨m, hn, hl'⟩ := I.loc; ⟨m, hn, fun i x v e1 e2 e3 => hl' i x v e1 (w i v e2) e3⟩, I.cell, I.free, I.freeC, I.pin, I.hok, hl.trans I.len⟩
theorem Inv.pins_of {pins' : List (Addr × Obj)} (I : Inv X pins σ H s) (h : ∀ p ∈ pins', s.heap.get? p.1 = some p.2 /\ H p.1 = none /\ p.1 ≠ X.env.locals /\ p.1 ∉ X.fs /\ ∀ v, p.2.data ≠ .cell v) : Inv X pins' σ H s :=
  ⟨I.ok, I.os, I.bare, I.base, I.loc, I.cell, I.free, I.freeC, fun p hp => (ZH.mp hp).elim (fun z => I.pin p (ZV _ z)) (h p), I.hok, I.len⟩
theorem ic {N : List Str} (hN : N.Nodup) {i j : Nat} {x : Str} (a : N[i]? = some x) (b : N[j]? = some x) : i = j := by
  obtain ⟨h1, e1⟩ := Zc.mp a;obtain ⟨h2, e2⟩ := Zc.mp b;exact (List.getElem_inj hN).mp (e1.trans e2.symm)
theorem dj {M : Model} {A : Around} {E : Value -> Shared -> Prop} {i : Nat} {x : Str} {v : V} {u : Value} {Q : Unit -> Shared -> Prop} (I : Inv X pins σ H s) (hN : X.N.Nodup) (hi : X.N[i]? = some x) (hx : Loc X.env.scope x) (r : RelV v u)
    (h : ∀ s', Inv X pins (σ.set i (some v)) H s' -> (∃ a, Heap.SameBut a s.heap s'.heap /\ (a = X.env.locals \/ X.env.cells.lookup x = some a)) -> Q () s') (hf : X.fn x = true \/ X.env.scope.names.lookup x = some .local := by first | exact .inl rfl | exact .inr rfl | assumption) : wpAny M A (storeName X.env x u) Q E s := by
  obtain ⟨m, hn, hl⟩ := id I.loc;have hcls : (X.env.scope.kind == .class || (X.env.scope.kind == .module && X.env.locals != X.env.globals)) = false := by rw [I.ok.kind]; rfl
  have hiσ : i < σ.length := by rw [I.len]; exact (Zc.mp hi).1
  have cne := I.cne
  have tracked : ∀ {a : Addr} {h' : Heap}, (∃ o, s.heap.get? a = some o /\ H a = none) -> Heap.SameBut a s.heap h' -> HOk X.prog X.w H h' := fun {a h'} ha hs b ob e => by
    obtain ⟨_, _, hfree⟩ := ha;refine (I.hok b ob e).stay (fun c w' hc q => (hs.2 c ?_).trans q) (fun _ q => q) fun _ _ q => q
    rintro rfl
    rcases hc with rfl | hc
    . rw [hfree] at e; cases e
    . rw [hfree] at hc; cases hc
  rcases hx with hk | hk
  . refine wpAny_storeName_local hk hn (fun h' hn' hs => ?_) hcls
    obtain ⟨oL, _, _, hoL, _⟩ := id hn;refine h _ ⟨I.ok, I.os, I.bare, ⟨fun b o e n hb hx => ?_, fun b o e n hb hx => ?_, I.base.free, fun b o e hx => ?_, I.base.tups, I.base.frzs, I.base.tbls⟩, ⟨_, hn', fun j y v' e1 e2 e3 => ?_⟩, fun y c e => ?_, I.free, I.freeC, fun p hp => ?_, tracked ⟨oL, hoL, I.free⟩ hs, by simpa using I.len⟩ ⟨_, hs, .inl rfl⟩
    . exact (hs.2 b (Zs (Zh (Heap.lt_size e) I.ok.above))).trans (I.base.keep b o e n hb hx)
    . obtain ⟨sl, e1⟩ := I.base.slot b o e n hb hx
      exact ⟨sl, (hs.2 b (Zs (Zh (Heap.lt_size e) I.ok.above))).trans e1⟩
    . obtain ⟨o', e1⟩ := I.base.there b o e hx
      exact ⟨o', (hs.2 b (Zs (Zh (Heap.lt_size e) I.ok.above))).trans e1⟩
    . by_cases hj : j = i
      . subst hj
        rw [hi] at e1; cases e1;rw [Yn hiσ] at e2;cases e2;exact ⟨u, r, .inl ⟨hk, by simp⟩⟩
      . rw [Ys (Ne.symm hj)] at e2
        obtain ⟨u', r', q⟩ := hl j y v' e1 e2 e3;refine ⟨u', r', ?_⟩
        rcases q with ⟨k, e⟩ | ⟨k, c, e, z⟩
        . refine .inl ⟨k, ?_⟩
          have : y ≠ x := fun e => hj (ic hN e1 (e ▸ hi))
          simp [this, e]
        . exact .inr ⟨k, c, e, z.sameBut hs (cne y c e)⟩
    . obtain ⟨w', z⟩ := I.cell y c e
      exact ⟨w', z.sameBut hs (cne y c e)⟩
    . obtain ⟨e, n, ne, nf, d⟩ := I.pin p hp
      exact ⟨(hs.2 p.1 ne).trans e, n, ne, nf, d⟩
  . have hfn : X.fn x = true := by
      rcases hf with z | z
      . exact z
      . rw [z] at hk; cases hk
    obtain ⟨c, hc⟩ := I.ok.has x (.inl hk);obtain ⟨w', z⟩ := I.cell x c hc;refine wpAny_storeName_cell I.ok.kind hk hc z (fun h' hc' hs => ?_);obtain ⟨oc, hoc, hocd⟩ := id z;refine h { s with heap := h' } ⟨I.ok, I.os, I.bare, ⟨fun b o e n hb hx => ?_, fun b o e n hb hx => ?_, I.base.free, fun b o e hx => ?_, I.base.tups, I.base.frzs, I.base.tbls⟩, ⟨m, hn.sameBut hs (Ne.symm (cne x c hc)), fun j y v' e1 e2 e3 => ?_⟩, fun y c' e => ?_, I.free, I.freeC, fun p hp => ?_, tracked ⟨oc, hoc, I.freeC x c hc⟩ hs, by simpa using I.len⟩ ⟨c, hs, .inr hc⟩
    . exact (hs.2 b (Zs (Zh (Heap.lt_size e) (I.ok.cab x c hfn hc)))).trans (I.base.keep b o e n hb hx)
    . obtain ⟨sl, e1⟩ := I.base.slot b o e n hb hx
      exact ⟨sl, (hs.2 b (Zs (Zh (Heap.lt_size e) (I.ok.cab x c hfn hc)))).trans e1⟩
    . obtain ⟨o', e1⟩ := I.base.there b o e hx
      exact ⟨o', (hs.2 b (Zs (Zh (Heap.lt_size e) (I.ok.cab x c hfn hc)))).trans e1⟩
    . by_cases hj : j = i
      . subst hj
        rw [hi] at e1; cases e1;rw [Yn hiσ] at e2;cases e2;exact ⟨u, r, .inr ⟨.inl hk, c, hc, hc'⟩⟩
      . rw [Ys (Ne.symm hj)] at e2
        obtain ⟨u', r', q⟩ := hl j y v' e1 e2 e3;refine ⟨u', r', ?_⟩
        rcases q with q | ⟨k, c', e, z'⟩
        . exact .inl q
        . refine .inr ⟨k, c', e, z'.sameBut hs ?_⟩
          rintro rfl
          exact hj (ic hN e1 (I.ok.inj _ _ _ e hc ▸ hi))
    . by_cases hcc : c' = c
      . subst hcc; exact ⟨_, hc'⟩
      . obtain ⟨w2, z2⟩ := I.cell y c' e
        exact ⟨w2, z2.sameBut hs hcc⟩
    . obtain ⟨e, n, ne, nf, d⟩ := I.pin p hp
      refine ⟨(hs.2 p.1 ?_).trans e, n, ne, nf, d⟩;intro q;rw [q, hoc] at e;have q' : oc = p.2 := Option.some.inj e;exact d w' (by rw [<- q']; exact hocd)
theorem kx {M : Model} {A : Around} {E : Value -> Shared -> Prop} {i : Nat} {x : Str} {v : V} {u : Value} {Q : Unit -> Shared -> Prop} (I : Inv X pins σ H s) (hN : X.N.Nodup) (hi : X.N[i]? = some x) (hx : Loc X.env.scope x) (r : RelV v u)
    (h : ∀ s', Inv X pins (σ.set i (some v)) H s' -> Q () s') (hf : X.fn x = true \/ X.env.scope.names.lookup x = some .local := by first | exact .inl rfl | exact .inr rfl | assumption) : wpAny M A (storeName X.env x u) Q E s :=
  dj I hN hi hx r (fun s' I' _ => h s' I') hf
theorem Inv.call' {s' : Shared} {ch : List Addr} (I : Inv X pins σ H s) (ho : s'.os = s.os) (u : Un (frs X.stack) ch H H' s.heap s'.heap) (hok : HOk X.prog X.w H' s'.heap) (hg : AllBare s'.gens)
    (hch : ∀ b ∈ ch, (b ∈ X.ex \/ X.s₀.heap.objs.size <= b) /\ b ≠ X.env.locals /\ (∀ x c, X.env.cells.lookup x = some c -> c ≠ b) /\ ∀ p ∈ X.pn ++ pins, p.1 ≠ b) : Inv X pins σ H' s' := by
  obtain ⟨h', g', d', t', o'⟩ := s';have e : o' = s.os := ho;subst e;exact I.call (g' := g') (t' := t') (d' := d') u hok hg hch
end
abbrev XK := Value -> Option Addr -> Hp -> Prop
abbrev St := List (Option V)
abbrev VK := V -> Hp -> Prop
abbrev TE := St -> Hp -> VK -> Prop
abbrev TT := St -> Hp -> (Bool -> Hp -> Prop) -> Prop
abbrev TA := St -> Hp -> (List V -> Hp -> Prop) -> Prop
structure Ends where
  nx : St -> Hp -> Prop
  rt : VK
  bk : St -> Hp -> Prop := fun _ _ => False
  ct : St -> Hp -> Prop := fun _ _ => False
abbrev TS := Ends -> St -> Hp -> Prop
def EP (X : Cx) (pins : List (Addr × Obj)) (σ : St) (Q : VK) (u : Value) (s' : Shared) : Prop := ∃ v H', Inv X pins σ H' s' /\ RelV v u /\ Q v H'
def TP (X : Cx) (pins : List (Addr × Obj)) (σ : St) (Q : Bool -> Hp -> Prop) (b : Bool) (s' : Shared) : Prop := ∃ H', Inv X pins σ H' s' /\ Q b H'
def AP (X : Cx) (pins : List (Addr × Obj)) (σ : St) (Q : List V -> Hp -> Prop) (us : List Value) (s' : Shared) : Prop := ∃ vs H', Inv X pins σ H' s' /\ Vals vs us /\ Q vs H'
def SP (X : Cx) (pins : List (Addr × Obj)) (D : Ends) (f : Flow) (s' : Shared) : Prop :=
  match f with
  | .next => ∃ σ' H', Inv X pins σ' H' s' /\ D.nx σ' H'
  | .brk => ∃ σ' H', Inv X pins σ' H' s' /\ D.bk σ' H'
  | .cont => ∃ σ' H', Inv X pins σ' H' s' /\ D.ct σ' H'
  | .ret u => ∃ v σ' H', Inv X pins σ' H' s' /\ RelV v u /\ D.rt v H'
def PE (X : Cx) (e : Expr) (t : TE) : Prop :=
  ∀ (pins : List (Addr × Obj)) (s : Shared) (σ : St) (H : Hp) (Q : VK), Inv X pins σ H s -> t σ H Q -> wpAny (model X.prog X.w) X.A (eval e X.env) (EP X pins σ Q) X.xe s
def PT (X : Cx) (e : Expr) (t : TT) : Prop :=
  ∀ (pins : List (Addr × Obj)) (s : Shared) (σ : St) (H : Hp) (Q : Bool -> Hp -> Prop), Inv X pins σ H s -> t σ H Q -> wpAny (model X.prog X.w) X.A (isTrue e X.env (eval e X.env)) (TP X pins σ Q) X.xe s
def PW (X : Cx) (e : Expr) (t : TT) : Prop :=
  ∀ (whole : Sem Value) (pins : List (Addr × Obj)) (s : Shared) (σ : St) (H : Hp) (Q : Bool -> Hp -> Prop), Inv X pins σ H s -> t σ H Q -> wpAny (model X.prog X.w) X.A (isTrue e X.env whole) (TP X pins σ Q) X.xe s
theorem PW.pt {X : Cx} {e : Expr} {t : TT} (h : PW X e t) : PT X e t := h _
def PA (X : Cx) (es : List Expr) (t : TA) : Prop :=
  ∀ (pos : Pos) (pins : List (Addr × Obj)) (s : Shared) (σ : St) (H : Hp) (Q : List V -> Hp -> Prop), Inv X pins σ H s -> t σ H Q -> wpAny (model X.prog X.w) X.A (spliced (backTo pos (starEach es X.env))) (AP X pins σ Q) X.xe s
def PS (X : Cx) (st : Stmt) (t : TS) : Prop :=
  ∀ (pins : List (Addr × Obj)) (s : Shared) (σ : St) (H : Hp) (D : Ends), Inv X pins σ H s -> t D σ H -> wpAny (model X.prog X.w) X.A (exec st X.env) (SP X pins D) X.xe s
def PSs (X : Cx) (st : List Stmt) (t : TS) : Prop :=
  ∀ (pins : List (Addr × Obj)) (s : Shared) (σ : St) (H : Hp) (D : Ends), Inv X pins σ H s -> t D σ H -> wpAny (model X.prog X.w) X.A (execs st X.env) (SP X pins D) X.xe s
theorem thn {α : Type} {t : Sem α} {Q Q' : α -> Shared -> Prop} {M : Model} {A : Around} {E : Value -> Shared -> Prop} {s : Shared} (h : wpAny M A t Q E s) (hQ : ∀ a s, Q a s -> Q' a s) : wpAny M A t Q' E s := wpAny_mono h hQ fun _ _ x => x
end L2
namespace L2
open PySem PySem.Spec PyProof.Rows
section
variable {X : Cx}
def tVar (i : Nat) : TE := fun σ H Q => ∃ v, σ[i]? = some (some v) /\ Q v H
def tC (v : V) : TE := fun _ H Q => Q v H
theorem pe_var {i : Nat} {x : Str} {pos : Pos} (hN : X.N[i]? = some x) (hv : Vis X.env.scope x) (hd : (x == ("__debug__" : Str)) = false := by decide) (hcd : (x == ("__classdict__" : Str)) = false := by decide) : PE X (.Name x pos) (tVar i) := by
  intro pins s σ H Q I h;obtain ⟨v, e, h⟩ := h;obtain ⟨m, hn, hl⟩ := I.loc;obtain ⟨u, r, l⟩ := hl i x v hN e hv;have fin : EP X pins σ Q u s := ⟨v, H, I, r, h⟩
  rcases l with ⟨hk, hm⟩ | ⟨hk, c, hc, hcell⟩
  . exact wpAny_Name (wpAny_loadName_local I.ok.kind hk hn hm fin) hd
  . rcases hk with hk | hk
    . exact wpAny_Name (wpAny_loadName_cell I.ok.kind hk hc hcell fin) hd
    . exact wpAny_Name (wpAny_loadName_free I.ok.kind hk hc hcell fin hcd) hd
theorem zg {i j pos} : PE X (.Constant (.int i) j pos) (tC (.int i)) := fun _ _ _ H _ I h => wpAny_Constant_int ⟨.int i, H, I.tok _, ⟨_, rfl⟩, h⟩
theorem xp {b j pos} : PE X (.Constant (.bool b) j pos) (tC (.bl b)) := fun _ _ _ H _ I h => Constant_bool ⟨.bl b, H, I, rfl, h⟩
theorem uc {j pos} : PE X (.Constant .none j pos) (tC .non) := fun _ _ _ H _ I h => Constant_none ⟨.non, H, I, rfl, h⟩
theorem qc {x j pos} : PE X (.Constant (.str x) j pos) (tC (.str x)) := fun _ _ _ H _ I h => Calls.Constant_str ⟨.str x, H, I.tok _, ⟨_, rfl⟩, h⟩
def Gl (X : Cx) (x : Str) : Prop := X.env.kindOf x = some .globalImplicit
theorem m7 {E : Value -> Shared -> Prop} {pins : List (Addr × Obj)} {s : Shared} {σ : St} {H : Hp} {x : Str} {u : Value} {pos : Pos} {Q : Value -> Shared -> Prop} (I : Inv X pins σ H s) (hg : Gl X x) (hm : X.mg x = some u) (h : Q u s)
    (hd : (x == ("__debug__" : Str)) = false := by decide) : wpAny (model X.prog X.w) X.A (eval (.Name x pos) X.env) Q E s :=
  Calls.Name_function_global I.ok.kind hg (Calls.loadGlobal_global (by rw [I.ok.glob]; exact I.mod.glob.keeps I.bk) hm h) hd
theorem v5 {E : Value -> Shared -> Prop} {pins : List (Addr × Obj)} {s : Shared} {σ : St} {H : Hp} {x : Str} {u : Value} {pos : Pos} {Q : Value -> Shared -> Prop} (I : Inv X pins σ H s) (hg : Gl X x) (hm : X.mg x = none) (hv : bootBuiltins x = some u) (h : Q u s)
    (hn : x ≠ "__name__" := by decide) (hd : (x == ("__debug__" : Str)) = false := by decide) : wpAny (model X.prog X.w) X.A (eval (.Name x pos) X.env) Q E s := by
  obtain ⟨mb, h1, h2⟩ := I.mod.blt;exact Calls.Name_function_global I.ok.kind hg (Calls.loadGlobal_builtin (by rw [I.ok.glob]; exact I.mod.glob.keeps I.bk) hm (by rw [I.ok.blt]; exact h1.keeps I.bk) ((h2 x hn).trans hv) h) hd
theorem wm {x : Str} {v : V} {u : Value} {pos : Pos} (hg : Gl X x) (hm : X.mg x = some u) (r : RelV v u) (hd : (x == ("__debug__" : Str)) = false := by decide) : PE X (.Name x pos) (tC v) :=
  fun _ _ _ H _ I h => m7 I hg hm ⟨v, H, I, r, h⟩ hd
theorem zg9 {x : Str} {v : V} {u : Value} {pos : Pos} (hg : Gl X x) (hm : X.mg x = none) (hv : bootBuiltins x = some u) (r : RelV v u) (hn : x ≠ "__name__" := by decide) (hd : (x == ("__debug__" : Str)) = false := by decide) : PE X (.Name x pos) (tC v) :=
  fun _ _ _ H _ I h => v5 I hg hm hv ⟨v, H, I, r, h⟩ hn hd
variable {a b : Expr} {ta tb : TE} {pos : Pos}
def tB (t : TE) : TT := fun σ H Q => t σ H fun x H1 => ∃ c, x = .bl c /\ Q c H1
theorem xn {e : Expr} {t : TE} (h : PE X e t) (he : ∀ whole, isTrue e X.env whole = (do let v <- whole; standAt e.pos; holding [v] (truthy v)) := by intro _; rfl) : PT X e (tB t) := by
  intro pins s σ H Q I hw;refine isTrue_plain (thn (h pins s σ H _ I hw) fun v s1 ⟨x, H1, I1, r1, q1⟩ => ?_) (he _);obtain ⟨d, rfl, q⟩ := q1;cases r1;exact wpAny_truthy_bool ⟨H1, I1, q⟩
variable {tA tB' : TT} {rest : List Expr}
def tAnd (t u : TT) : TT := fun σ H Q => t σ H fun c H1 => if c = true then u σ H1 Q else Q false H1
def tOr (t u : TT) : TT := fun σ H Q => t σ H fun c H1 => if c = true then Q true H1 else u σ H1 Q
def tNot (t : TT) : TT := fun σ H Q => t σ H fun c H1 => Q (!c) H1
theorem tf (ha : PT X a tA) : PW X (.BoolOp .Or [a] pos) tA := by
  intro wh pins s σ H Q I h;refine isTrue_or (thn (ha pins s σ H Q I h) fun c s1 e => ?_)
  cases c with
  | false => exact isTrue_or_nil e
  | true => exact e
theorem pc (ha : PT X a tA) (hb : PW X (.BoolOp .Or (b :: rest) pos) tB') : PW X (.BoolOp .Or (a :: b :: rest) pos) (tOr tA tB') := by
  intro wh pins s σ H Q I h;refine isTrue_or (thn (ha pins s σ H _ I h) fun c s1 ⟨H1, I1, q1⟩ => ?_)
  cases c with
  | true => exact ⟨H1, I1, q1⟩
  | false => exact hb wh pins s1 σ H1 Q I1 q1
theorem xj (ha : PT X a tA) : PT X (.UnaryOp .Not a pos) (tNot tA) := by
  intro pins s σ H Q I h;exact isTrue_not (ha pins s σ H (fun c H1 => Q (!c) H1) I h)
def tAndV (ta tb : TE) : TE := fun σ H Q => ta σ H fun x H1 => ∃ c, x = .bl c /\ if c = true then tb σ H1 Q else Q (.bl false) H1
def tOrV (ta tb : TE) : TE := fun σ H Q => ta σ H fun x H1 => ∃ c, x = .bl c /\ if c = true then Q (.bl true) H1 else tb σ H1 Q
def tNotV (ta : TE) : TE := fun σ H Q => ta σ H fun x H1 => ∃ c, x = .bl c /\ Q (.bl (!c)) H1
theorem m5 {op} {t : TE} (h : PE X a t) : PE X (.BoolOp op [a] pos) t := fun pins s σ H Q I hw => BoolOp_one (h pins s σ H Q I hw)
theorem om (ha : PE X a ta) (hb : PE X (.BoolOp .And (b :: rest) pos) tb) : PE X (.BoolOp .And (a :: b :: rest) pos) (tAndV ta tb) := by
  intro pins s σ H Q I h;refine BoolOp_and (thn (ha pins s σ H _ I h) fun v s1 ⟨x, H1, I1, r1, q1⟩ => ?_);obtain ⟨c, rfl, q1⟩ := q1;cases r1;refine wpAny_truthy_bool ?_
  cases c with
  | true => exact hb pins s1 σ H1 Q I1 q1
  | false => exact ⟨.bl false, H1, I1, rfl, q1⟩
theorem zfi (ha : PE X a ta) : PE X (.UnaryOp .Not a pos) (tNotV ta) := by
  intro pins s σ H Q I h;refine UnaryOp_ (thn (ha pins s σ H _ I h) fun v s1 ⟨x, H1, I1, r1, q1⟩ => ?_);obtain ⟨c, rfl, q1⟩ := q1;cases r1;exact not_of (wpAny_truthy_bool ⟨.bl (!c), H1, I1, rfl, q1⟩)
def tIf (t : TT) (ta tb : TE) : TE := fun σ H Q => t σ H fun c H1 => if c = true then ta σ H1 Q else tb σ H1 Q
theorem zgf {c : Expr} (hc : PT X c tA) (ha : PE X a ta) (hb : PE X b tb) : PE X (.IfExp c a b pos) (tIf tA ta tb) := by
  intro pins s σ H Q I h;refine wpAny_IfExp (thn (hc pins s σ H _ I h) fun d s1 ⟨H1, I1, q1⟩ => ?_)
  cases d with
  | true => exact ha pins s1 σ H1 Q I1 q1
  | false => exact hb pins s1 σ H1 Q I1 q1
end
end L2
namespace L2
open PySem PySem.Spec PyProof.Rows
def SqL (K : Fg) (H : Hp) (a : Addr) (xs : List V) : Prop :=
  Rd H a (.lst xs) \/
    ∃ (o : Obj) (its : Array Value) (n : Nat), K.lookup a = some o /\ o.cls = .type "list" /\ o.dict = none /\ o.data = .seq its n /\ its.size <= sizeLine /\ Vals xs its.toList
def SqT (K : Fg) (H : Hp) (a : Addr) (xs : List V) : Prop :=
  Rd H a (.tup xs) \/
    ∃ (o : Obj) (its : Array Value) (n : Nat), K.lookup a = some o /\ o.cls = .type "tuple" /\ o.data = .seq its n /\ its.size <= sizeLine /\ Vals xs its.toList
def absV : Value -> Option V
  | .none => some .non
  | .bool b => some (.bl b)
  | .int i _ => some (.int i)
  | .str x _ => some (.str x)
  | .bytes b _ => some (.byt b)
  | .float b _ => some (.flt b)
  | .ref a => some (.ref a)
  | .type n => some (.ty n)
  | _ => none
theorem RelV.abs {x : V} {u : Value} (r : RelV x u) : absV u = some x := by
  cases x with
  | non => cases r; rfl
  | bl _ => cases r; rfl
  | int _ => obtain ⟨t, rfl⟩ := r; rfl
  | str _ => obtain ⟨t, rfl⟩ := r; rfl
  | byt _ => obtain ⟨t, rfl⟩ := r; rfl
  | flt _ => obtain ⟨t, rfl⟩ := r; rfl
  | ref _ => cases r; rfl
  | ty _ => cases r; rfl
theorem RelV.inj {x y : V} {u : Value} (r : RelV x u) (q : RelV y u) : x = y := Option.some.inj (r.abs.symm.trans q.abs)
theorem Vals.inj : ∀ {xs ys : List V} {us : List Value}, Vals xs us -> Vals ys us -> xs = ys
  | _, _, _, .nil, .nil => rfl
  | _, _, _, .cons r t, .cons r' t' => by rw [r.inj r', Vals.inj t t']
section
variable {X : Cx} {pins : List (Addr × Obj)} {σ : St} {H : Hp} {s : Shared} {a : Addr} {xs ys : List V}
theorem SqL.of {K : Fg} (h : H a = some (.lst xs)) : SqL K H a xs := .inl (.inl h)
theorem SqT.of {K : Fg} (h : H a = some (.tup xs)) : SqT K H a xs := .inl (.inl h)
theorem Inv.list (I : Inv X pins σ H s) (h : SqL X.K H a xs) : ∃ its : List Value, Vals xs its /\ PlainL s.heap a its.toArray /\ xs.length <= sizeLine := by
  rcases h with h | ⟨o, its, n, hk, hc, hd, hs, hz, r⟩
  . obtain ⟨z, its, n, r, e⟩ := h.ok I.hok
    exact ⟨its, r, ⟨_, n, e, rfl, rfl, rfl⟩, z⟩
  . refine ⟨its.toList, r, ⟨o, n, I.kIn a o hk, hc, hd, by simpa using hs⟩, ?_⟩
    have e := r.length;simp only [ZQ] at e;omega
theorem Inv.tuple (I : Inv X pins σ H s) (h : SqT X.K H a xs) : ∃ its : List Value, Vals xs its /\ IsTup s.heap a its.toArray /\ xs.length <= sizeLine := by
  rcases h with h | ⟨o, its, n, hk, hc, hs, hz, r⟩
  . obtain ⟨z, its, r, p⟩ := h.ok I.hok
    exact ⟨its, r, p.tup, z⟩
  . refine ⟨its.toList, r, ⟨o, I.kIn a o hk, hc, n, by simpa using hs⟩, ?_⟩
    have e := r.length;simp only [ZQ] at e;omega
theorem Inv.list_inj (I : Inv X pins σ H s) (h : SqL X.K H a xs) (h' : SqL X.K H a ys) : xs = ys := by
  obtain ⟨its, r, ⟨o, n, e, _, _, d⟩, _⟩ := I.list h;obtain ⟨its', r', ⟨o', n', e', _, _, d'⟩, _⟩ := I.list h';rw [e] at e'; cases e';rw [d] at d'
  injection d' with d1 _
  have : its = its' := by simpa using congrArg Array.toList d1
  subst this;exact r.inj r'
theorem Inv.tuple_inj (I : Inv X pins σ H s) (h : SqT X.K H a xs) (h' : SqT X.K H a ys) : xs = ys := by
  obtain ⟨its, r, ⟨o, e, _, n, d⟩, _⟩ := I.tuple h;obtain ⟨its', r', ⟨o', e', _, n', d'⟩, _⟩ := I.tuple h';rw [e] at e'; cases e';rw [d] at d'
  injection d' with d1 _
  have : its = its' := by simpa using congrArg Array.toList d1
  subst this;exact r.inj r'
end
abbrev Cx.wish (X : Cx) (E : Value -> Shared -> Prop) : Cx := { X with xe := E }
abbrev Cx.nox (X : Cx) : Cx := X.wish fun _ _ => False
theorem Cx.Ok.wish {X : Cx} (ok : X.Ok) (E : Value -> Shared -> Prop) : (X.wish E).Ok :=
  ⟨ok.mod, ok.kind, ok.glob, ok.blt, ok.above, ok.inj, ok.has, ok.cab, ok.hd, ok.frames, ok.stk, ok.exf, ok.bs, ok.bsz, ok.noex, ok.exfs, ok.funs, ok.frf⟩
theorem Cx.Ok.unwish {X : Cx} {E : Value -> Shared -> Prop} (ok : (X.wish E).Ok) : X.Ok :=
  ⟨ok.mod, ok.kind, ok.glob, ok.blt, ok.above, ok.inj, ok.has, ok.cab, ok.hd, ok.frames, ok.stk, ok.exf, ok.bs, ok.bsz, ok.noex, ok.exfs, ok.funs, ok.frf⟩
section
variable {X : Cx} {pins : List (Addr × Obj)} {σ : St} {H : Hp} {s : Shared} {E : Value -> Shared -> Prop}
theorem Inv.wish (I : Inv X pins σ H s) (E : Value -> Shared -> Prop) : Inv (X.wish E) pins σ H s := ⟨I.ok.wish E, I.os, I.bare, I.base, I.loc, I.cell, I.free, I.freeC, I.pin, I.hok, I.len⟩
theorem Inv.unwish (I : Inv (X.wish E) pins σ H s) : Inv X pins σ H s := ⟨I.ok.unwish, I.os, I.bare, I.base, I.loc, I.cell, I.free, I.freeC, I.pin, I.hok, I.len⟩
theorem SP.unwish {D : Ends} {f : Flow} {s' : Shared} (h : SP (X.wish E) pins D f s') : SP X pins D f s' := by
  cases f with
  | next => obtain ⟨σ', H', I, q⟩ := h; exact ⟨σ', H', I.unwish, q⟩
  | brk => obtain ⟨σ', H', I, q⟩ := h; exact ⟨σ', H', I.unwish, q⟩
  | cont => obtain ⟨σ', H', I, q⟩ := h; exact ⟨σ', H', I.unwish, q⟩
  | ret u => obtain ⟨v, σ', H', I, r, q⟩ := h; exact ⟨v, σ', H', I.unwish, r, q⟩
theorem PSs.nox {st : List Stmt} {t : TS} (h : PSs X.nox st t) : PSs X st t := fun pins s σ H D I hw =>
  wpAny_mono (h pins s σ H D (I.wish _) hw) (fun _ _ q => q.unwish) fun _ _ z => False.elim z
end
section
variable {X : Cx} {st : Stmt} {rest : List Stmt} {t u : TS} {e : Expr} {te : TE} {pos : Pos}
def tNext : TS := fun D σ H => D.nx σ H
def tSeq (t u : TS) : TS := fun D σ H => t { D with nx := u D } σ H
theorem yf : PSs X [] tNext := fun _ _ σ H _ I h => wpAny_execs_nil ⟨σ, H, I, h⟩
theorem zi (h1 : PS X st t) (h2 : PSs X rest u) : PSs X (st :: rest) (tSeq t u) := by
  intro pins s σ H D I h;refine wpAny_execs_cons (thn (h1 pins s σ H { D with nx := u D } I h) fun f s1 q => ?_)
  cases f with
  | next =>
    obtain ⟨σ', H', I', q⟩ := q;exact h2 pins s1 σ' H' D I' q
  | ret v => exact q
  | brk => exact q
  | cont => exact q
theorem zh (h1 : PS X st t) : PSs X [st] t := by
  intro pins s σ H D I h;refine wpAny_execs_cons (thn (h1 pins s σ H D I h) fun f s1 q => ?_)
  cases f with
  | next => exact wpAny_execs_nil q
  | ret v => exact q
  | brk => exact q
  | cont => exact q
def tBreak : TS := fun D σ H => D.bk σ H
def tCont : TS := fun D σ H => D.ct σ H
theorem Inv.quiet {pins : List (Addr × Obj)} {σ : St} {H : Hp} {s : Shared} (I : Inv X pins σ H s) : interactive X.env = false := by simp [interactive, I.ok.kind]
def tDrop (te : TE) : TS := fun D σ H => te σ H fun _ H1 => D.nx σ H1
theorem wn (he : PE X e te) (hs : swapsWith e none pos.line X.env = pure false := by rfl) : PS X (.Expr e pos) (tDrop te) := by
  intro pins s σ H D I h;exact wpAny_Expr_any (thn (he pins s σ H _ I h) fun v s1 ⟨x, H1, I1, r1, q1⟩ => ⟨σ, H1, I1, q1⟩) I.quiet hs
def tRet (te : TE) : TS := fun D σ H => te σ H D.rt
theorem zm (he : PE X e te) : PS X (.Return (some e) pos) (tRet te) := by
  intro pins s σ H D I h;exact wpAny_Return_some (thn (he pins s σ H _ I h) fun v s1 ⟨x, H1, I1, r1, q1⟩ => ⟨x, σ, H1, I1, r1, q1⟩)
def tRetN : TS := fun D _ H => D.rt .non H
def tIfS (c : TT) (t u : TS) : TS := fun D σ H => c σ H fun b H1 => if b = true then t D σ H1 else u D σ H1
theorem yz {c : Expr} {a b : List Stmt} {tc : TT} (hc : PT X c tc) (ha : PSs X a t) (hb : PSs X b u) : PS X (.If c a b pos) (tIfS tc t u) := by
  intro pins s σ H D I h;refine wpAny_If (thn (hc pins s σ H _ I h) fun d s1 ⟨H1, I1, q1⟩ => ?_)
  cases d with
  | true => exact ha pins s1 σ H1 D I1 q1
  | false => exact hb pins s1 σ H1 D I1 q1
end
abbrev TG := V -> St -> Hp -> (St -> Hp -> Prop) -> Prop
abbrev TGs := List V -> St -> Hp -> (St -> Hp -> Prop) -> Prop
def PG (X : Cx) (target : Expr) (t : TG) : Prop :=
  ∀ (pins : List (Addr × Obj)) (s : Shared) (σ : St) (H : Hp) (v : V) (u : Value) (Q : St -> Hp -> Prop), Inv X pins σ H s -> RelV v u -> t v σ H Q ->
    wpAny (model X.prog X.w) X.A (assign target X.env u) (fun _ s' => ∃ σ' H', Inv X pins σ' H' s' /\ Q σ' H') X.xe s
def PGs (X : Cx) (ts : List Expr) (t : TGs) : Prop :=
  ∀ (pins : List (Addr × Obj)) (s : Shared) (σ : St) (H : Hp) (vs : List V) (us : List Value) (Q : St -> Hp -> Prop), Inv X pins σ H s -> Vals vs us -> t vs σ H Q ->
    wpAny (model X.prog X.w) X.A (assignInOrder ((assignEach ts X.env).map (·.2)) us) (fun _ s' => ∃ σ' H', Inv X pins σ' H' s' /\ Q σ' H') X.xe s
abbrev TSet := V -> V -> V -> Hp -> (Hp -> Prop) -> Prop
def PSet (X : Cx) (t : TSet) : Prop :=
  ∀ (pins : List (Addr × Obj)) (s : Shared) (σ : St) (H : Hp) (o i v : V) (ov iv u : Value) (Q : Hp -> Prop), Inv X pins σ H s -> RelV o ov -> RelV i iv -> RelV v u -> t o i v H Q ->
    wpAny (model X.prog X.w) X.A (setItem ov iv u) (fun _ s' => ∃ H', Inv X pins σ H' s' /\ Q H') X.xe s
abbrev TIp := V -> V -> Hp -> VK -> Prop
section
variable {X : Cx} {pos : Pos}
def zcy (i : Nat) : TG := fun v σ H Q => Q (σ.set i (some v)) H
theorem zo {i : Nat} {x : Str} (hN : X.N.Nodup) (hi : X.N[i]? = some x) (hx : Loc X.env.scope x) (hf : X.fn x = true \/ X.env.scope.names.lookup x = some .local := by first | exact .inl rfl | exact .inr rfl | assumption) : PG X (.Name x pos) (zcy i) := by
  intro pins s σ H v u Q I r h;exact wpAny_assign_Name (kx I hN hi hx r (fun s' I' => ⟨_, H, I', h⟩) hf)
def gNil : TGs := fun vs σ H Q => vs = [] /\ Q σ H
def gCons (t : TG) (u : TGs) : TGs := fun vs σ H Q => ∃ v r, vs = v :: r /\ t v σ H fun σ' H' => u r σ' H' Q
theorem um : PGs X [] gNil := by
  intro pins s σ H vs us Q I r h;obtain ⟨e, h⟩ := h;subst e;cases r;exact assignInOrder_nil ⟨σ, H, I, h⟩
theorem y2 {e : Expr} {es : List Expr} {t : TG} {u : TGs} (h1 : PG X e t) (h2 : PGs X es u)
    (hs : (assignEach (e :: es) X.env).map (·.2) = assign e X.env :: (assignEach es X.env).map (·.2) := by rfl) : PGs X (e :: es) (gCons t u) := by
  intro pins s σ H vs us Q I r h;obtain ⟨v, vr, e1, h⟩ := h;subst e1
  cases r with
  | cons r rr =>
    rw [hs];refine assignInOrder_cons (thn (h1 pins s σ H _ _ _ I r h) fun _ s1 ⟨σ1, H1, I1, q1⟩ => ?_);exact h2 pins s1 σ1 H1 _ _ Q I1 rr q1
def gTup (K : Fg) (n : Nat) (t : TGs) : TG := fun v σ H Q => ∃ a xs, v = .ref a /\ SqT K H a xs /\ xs.length = n /\ t xs σ H Q
theorem rn {es : List Expr} {k : Nat} {t : TGs} {n : Nat} (hc : X.calm = true) (h : PGs X es t)
    (hn : (assignEach es X.env).length = n := by rfl) (hst : (assignEach es X.env).findIdx? (·.1) = none := by rfl) : PG X (.Tuple es k pos) (gTup X.K n t) := by
  intro pins s σ H v u Q I r hw;obtain ⟨a, xs, e1, hq, hl, hw⟩ := hw;subst e1;cases r;obtain ⟨its, rv, ht, hz⟩ := I.tuple hq;refine assign_Tuple_tuple (I.ok.hd hc) ht (by simp [hn, <- hl, rv.length]) hst fun h' hx => ?_
  have I1 : Inv X pins σ H { s with heap := h' } := I.kept (t' := s.toks) fun b o e => hx b o (Zs (Heap.lt_size e)) e
  exact h pins _ σ H xs _ Q I1 (by simpa using rv) hw
def gSub (to ti : TE) (t : TSet) : TG := fun v σ H Q => to σ H fun o H1 => ti σ H1 fun i H2 => t o i v H2 fun H3 => Q σ H3
theorem zae {o i : Expr} {to ti : TE} {t : TSet} (ho : PE X o to) (hi : PE X i ti) (hs : PSet X t)
    (ha : ∀ v, assign (.Subscript o i pos) X.env v = (do
      let ov <- holding [v] (eval o X.env)
      let iv <- holding [v, ov] (eval i X.env)
      standAt pos
      holding [v, ov, iv] (setItem ov iv v)
      release [v, ov, iv] []) := by intro _; rfl) : PG X (.Subscript o i pos) (gSub to ti t) := by
  intro pins s σ H v u Q I r h;rw [ha];refine wpAny_bind (wpAny_holding (thn (ho pins s σ H _ I h) fun ov s1 ⟨x, H1, I1, r1, q1⟩ => ?_));refine wpAny_bind (wpAny_holding (thn (hi pins s1 σ H1 _ I1 q1) fun iv s2 ⟨y, H2, I2, r2, q2⟩ => ?_));refine wpAny_bind (wpAny_standAt (wpAny_bind (wpAny_holding (thn (hs pins s2 σ H2 x y v ov iv u _ I2 r1 r2 r q2) fun _ s3 ⟨H3, I3, q3⟩ => ?_))));exact wpAny_release ⟨σ, H3, I3, q3⟩
def tAsg (te : TE) (g : TG) : TS := fun D σ H => te σ H fun x H1 => g x σ H1 D.nx
theorem gu {tg e : Expr} {te : TE} {g : TG} (he : PE X e te) (hg : PG X tg g) (hs : swapsWithSole [tg] e pos.line X.env = pure false := by rfl) (hw : swappedStores [tg] e X.env = pure none := by rfl)
    (h1 : (assignEach [tg] X.env).map (·.2) = [assign tg X.env] := by rfl) : PS X (.Assign [tg] e pos) (tAsg te g) := by
  intro pins s σ H D I h;refine wpAny_Assign_stores (thn (he pins s σ H _ I h) fun v s1 ⟨x, H1, I1, r1, q1⟩ => ?_) hs hw;rw [h1];exact thn (hg pins s1 σ H1 x v _ I1 r1 q1) fun _ s2 q => q
theorem zy {i : Nat} {x : Str} {e : Expr} {te : TE} {pos' : Pos} (hN : X.N.Nodup) (hi : X.N[i]? = some x) (hx : Loc X.env.scope x) (he : PE X e te) (hs : swapsWith e (some (.Name x pos')) pos.line X.env = pure false := by rfl) (hf : X.fn x = true \/ X.env.scope.names.lookup x = some .local := by first | exact .inl rfl | exact .inr rfl | assumption) :
    PS X (.Assign [.Name x pos'] e pos) (tAsg te (zcy i)) := by
  intro pins s σ H D I h;refine wpAny_Assign_Name (thn (he pins s σ H _ I h) fun v s1 ⟨y, H1, I1, r1, q1⟩ => ?_) hs;exact kx I1 hN hi hx r1 (fun s2 I2 => ⟨_, H1, I2, q1⟩) hf
def tAugS (to ti te : TE) (tget : V -> V -> Hp -> VK -> Prop) (tip : TIp) (tset : TSet) : TS := fun D σ H => to σ H fun o H1 => ti σ H1 fun i H2 => tget o i H2 fun x H3 => te σ H3 fun y H4 => tip x y H4 fun z H5 => tset o i z H5 fun H6 => D.nx σ H6
def ipI (f : Int -> Int -> Int) : TIp := fun x y H Q => ∃ i j, x = .int i /\ y = .int j /\ Q (.int (f i j)) H
end
section
variable {X : Cx} {pos : Pos}
end
structure It where
  go : Nat -> Hp -> Prop
  yld : Nat -> Hp -> V -> Hp -> Prop
  stop : Nat -> Hp -> Prop
def FpOk (X : Cx) (pins : List (Addr × Obj)) (H : Hp) (b : Addr) : Prop :=
  H b = none /\ b ≠ X.env.locals /\ b ∉ X.fs /\ (b ∈ X.ex \/ X.s₀.heap.objs.size <= b) /\ (∀ x c, X.env.cells.lookup x = some c -> c ≠ b) /\ ∀ p ∈ X.pn ++ pins, p.1 ≠ b
theorem Inv.fpOk {X : Cx} {pins : List (Addr × Obj)} {σ : St} {H H' : Hp} {s : Shared} {b : Addr} (I : Inv X pins σ H s) (hb : s.heap.objs.size <= b) (hn : H' b = none) : FpOk X pins H' b := by
  refine ⟨hn, Yq (Zh I.lt hb), I.nofs hb, .inr (Zd I.sz hb), fun x c e z => ?_, fun p hp z => ?_⟩
  . obtain ⟨v, q⟩ := I.cell x c e
    exact absurd (Zh q.lt (by rw [z]; exact hb)) (ZJ _)
  . exact absurd (Zh (Heap.lt_size (I.pin p hp).1) (by rw [z]; exact hb)) (ZJ _)
structure Turn (P : Program) (w : World) (K : Fg) (tg : Expr) (J : It) (fp : List Addr) (it : Addr) (tn : Nat -> Heap -> Prop) : Prop where
  mem : it ∈ fp
  obj : ∀ i h, tn i h -> ∀ b ∈ fp, ∃ o, h.get? b = some o /\ ∀ v, o.data ≠ .cell v
  keep : ∀ i h h', tn i h -> (∀ b ∈ fp, ∀ o, h.get? b = some o -> h'.get? b = some o) -> tn i h'
  item : ∀ (X : Cx), X.prog = P -> X.w = w -> X.K = K -> X.calm = true -> ∀ (i : Nat) (pins : List (Addr × Obj)) (s : Shared) (σ : St) (H : Hp) (E : Value -> Shared -> Prop), Inv X pins σ H s -> (∀ b ∈ fp, FpOk X pins H b) -> tn i s.heap -> J.go i H ->
    wpAny (model P w) X.A (pyNext (.ref it)) (fun r s1 => ∃ u, r = some u /\
      wpAny (model P w) X.A (letOwnedTupleGo tg (.ref it) u) (fun _ s2 => ∃ x H', Inv X pins σ H' s2 /\ RelV x u /\ J.yld i H x H' /\ tn (i + 1) s2.heap /\ ∀ b ∈ fp, H' b = none) E s1) E s
  done : ∀ (X : Cx), X.prog = P -> X.w = w -> X.K = K -> X.calm = true -> ∀ (i : Nat) (pins : List (Addr × Obj)) (s : Shared) (σ : St) (H : Hp) (E : Value -> Shared -> Prop), Inv X pins σ H s -> (∀ b ∈ fp, FpOk X pins H b) -> tn i s.heap -> J.stop i H ->
    wpAny (model P w) X.A (pyNext (.ref it)) (fun r s1 => r = none /\ Inv X pins σ H s1) E s
  self : ∀ (A : Around) (i : Nat) (s : Shared) (Q : Value -> Shared -> Prop) (E : Value -> Shared -> Prop), tn i s.heap -> Q (.ref it) s -> wpAny (model P w) A (pyIter (.ref it)) Q E s
abbrev TI := St -> Hp -> (It -> Hp -> Prop) -> Prop
def PIE (X : Cx) (pins : List (Addr × Obj)) (σ : St) (tg : Expr) (R : It -> Hp -> Prop) (itv : Value) (s2 : Shared) : Prop :=
  ∃ (it : Addr) (fp : List Addr) (tn : Nat -> Heap -> Prop) (J : It) (H' : Hp), itv = .ref it /\ Inv X pins σ H' s2 /\ Turn X.prog X.w X.K tg J fp it tn /\ tn 0 s2.heap /\ (∀ b ∈ fp, FpOk X pins H' b) /\ R J H'
def PI (X : Cx) (tg iter : Expr) (wi : TI) : Prop :=
  ∀ (pins : List (Addr × Obj)) (s : Shared) (σ : St) (H : Hp) (R : It -> Hp -> Prop), Inv X pins σ H s -> wi σ H R ->
    wpAny (model X.prog X.w) X.A (eval iter X.env) (fun v s1 => wpAny (model X.prog X.w) X.A (pyIter v) (PIE X pins σ tg R) X.xe s1) X.xe s
theorem js {M : Model} {A : Around} {E : Value -> Shared -> Prop} {s : Shared} {tg : Expr} {it : Addr} {u : Value} {o : Obj} {n : String} {vs : Array Value} {Q : Unit -> Shared -> Prop} (ho : s.heap.get? it = some o) (hc : o.cls = .type n) (hd : o.data = .fields vs)
    (hn : ["enumerate", "zip", "dict_itemiterator", "dict_reverseitemiterator", "odict_iterator", "itertools.zip_longest", "itertools.pairwise"].contains n = false) (hQ : Q () s) : wpAny M A (letOwnedTupleGo tg (.ref it) u) Q E s := by
  unfold letOwnedTupleGo
  cases tg <;> first
    | exact wpAny_pure hQ
    | (cases u <;> first
        | exact wpAny_pure hQ
        | (refine wpAny_bind (wpAny_load ho ?_)
           rw [hc, hd]
           show wpAny M A (if (["enumerate", "zip", "dict_itemiterator", "dict_reverseitemiterator", "odict_iterator", "itertools.zip_longest", "itertools.pairwise"].contains n && vs[0]? == some (rawInt _)) = true then _ else _) Q E s
           rw [if_neg (by intro h; rw [hn, Bool.false_and] at h; cases h)]
           exact wpAny_pure hQ))
def Itl (K : Fg) (a : Addr) : It :=
  ⟨fun i H => ∃ xs x, SqL K H a xs /\ xs[i]? = some x, fun i H x H' => H' = H /\ ∀ xs, SqL K H a xs -> xs[i]? = some x, fun i H => ∃ xs, SqL K H a xs /\ xs.length <= i⟩
def Itt (K : Fg) (a : Addr) : It :=
  ⟨fun i H => ∃ xs x, SqT K H a xs /\ xs[i]? = some x, fun i H x H' => H' = H /\ ∀ xs, SqT K H a xs -> xs[i]? = some x, fun i H => ∃ xs, SqT K H a xs /\ xs.length <= i⟩
def Itr (lo : Int) (n : Nat) : It := ⟨fun i _ => i < n, fun i H x H' => H' = H /\ x = .int (lo + i), fun i _ => n <= i⟩
theorem zex {P : Program} {w : World} {K : Fg} {tg : Expr} (a it : Addr) : Turn P w K tg (Itl K a) [it] it (fun i h => h.IsListIter it a i) where
  mem := by simp
  obj := fun i h st b hb => by
    have e : b = it := by simpa using hb
    subst e;obtain ⟨o, e, c, d⟩ := st;exact ⟨o, e, fun v z => by rw [d] at z; cases z⟩
  keep := fun i h h' st k => st.at fun o e => k it (by simp) o e
  item := by
    intro X hP hw hK hc i pins s σ H E I hf st hg;subst hP hw hK;obtain ⟨xs, x, hq, hx⟩ := hg;obtain ⟨its, rv, p, hz⟩ := I.list hq;obtain ⟨u, hu, ru⟩ := rv.get hx;obtain ⟨f0, f1, f2, f3, f4, f5⟩ := hf it (by simp);refine wpAny_pyNext_list_item st p.isList (x := u) (by simpa using hu) fun h' st' sb => ?_
    have I1 : Inv X pins σ H { s with heap := h' } := I.turned (t' := s.toks) (fun b o hb e => (sb.2 b hb).trans e) f0 f1 f3 f4 f5;obtain ⟨o, e, c, d⟩ := id st';exact ⟨u, rfl, js (s := { s with heap := h' }) e c d (by decide) ⟨x, H, I1, ru, ⟨rfl, fun ys hy => by rw [I.list_inj hy hq]; exact hx⟩, st', fun b hb => (hf b hb).1⟩⟩
  done := by
    intro X hP hw hK hc i pins s σ H E I hf st hg;subst hP hw hK;obtain ⟨xs, hq, hx⟩ := hg;obtain ⟨its, rv, p, hz⟩ := I.list hq;obtain ⟨f0, f1, f2, f3, f4, f5⟩ := hf it (by simp);have hl := rv.length;exact wpAny_pyNext_list_end (I.ok.hd hc) st p.isList (by simp; omega) fun h' eb => ⟨rfl, I.turned (t' := s.toks) (fun b o hb e => eb b o hb e) f0 f1 f3 f4 f5⟩
  self := fun _ _ _ _ _ st h => wpAny_pyIter_listiter st h
theorem zcs {P : Program} {w : World} {K : Fg} {tg : Expr} (a it : Addr) : Turn P w K tg (Itt K a) [it] it (fun i h => h.IsTupleIter it a i) where
  mem := by simp
  obj := fun i h st b hb => by
    have e : b = it := by simpa using hb
    subst e;obtain ⟨o, e, c, d⟩ := st;exact ⟨o, e, fun v z => by rw [d] at z; cases z⟩
  keep := fun i h h' st k => st.at fun o e => k it (by simp) o e
  item := by
    intro X hP hw hK hc i pins s σ H E I hf st hg;subst hP hw hK;obtain ⟨xs, x, hq, hx⟩ := hg;obtain ⟨its, rv, p, hz⟩ := I.tuple hq;obtain ⟨u, hu, ru⟩ := rv.get hx;obtain ⟨f0, f1, f2, f3, f4, f5⟩ := hf it (by simp);refine wpAny_pyNext_tuple_item st (show s.heap.IsTuple a its.toArray from p) (x := u) (by simpa using hu) fun h' st' sb => ?_
    have I1 : Inv X pins σ H { s with heap := h' } := I.turned (t' := s.toks) (fun b o hb e => (sb.2 b hb).trans e) f0 f1 f3 f4 f5;obtain ⟨o, e, c, d⟩ := id st';exact ⟨u, rfl, js (s := { s with heap := h' }) e c d (by decide) ⟨x, H, I1, ru, ⟨rfl, fun ys hy => by rw [I.tuple_inj hy hq]; exact hx⟩, st', fun b hb => (hf b hb).1⟩⟩
  done := by
    intro X hP hw hK hc i pins s σ H E I hf st hg;subst hP hw hK;obtain ⟨xs, hq, hx⟩ := hg;obtain ⟨its, rv, p, hz⟩ := I.tuple hq;obtain ⟨f0, f1, f2, f3, f4, f5⟩ := hf it (by simp);have hl := rv.length;exact wpAny_pyNext_tuple_end (I.ok.hd hc) st (show s.heap.IsTuple a its.toArray from p) (by simp; omega) fun h' eb => ⟨rfl, I.turned (t' := s.toks) (fun b o hb e => eb b o hb e) f0 f1 f3 f4 f5⟩
  self := fun _ _ _ _ _ st h => wpAny_pyIter_tupleiter st h
theorem zc3 {P : Program} {w : World} {K : Fg} {tg : Expr} (it : Addr) (lo : Int) (n : Nat) : Turn P w K tg (Itr lo n) [it] it (fun i h => IsRangeIter h it (lo + (i : Nat) * 1) ((n : Int) - (i : Nat)) 1) where
  mem := by simp
  obj := fun i h st b hb => by
    have e : b = it := by simpa using hb
    subst e
    exact ⟨_, st, fun v z => by
      have z' : Data.fields _ = Data.cell v := z
      cases z'⟩
  keep := fun i h h' st k => k it (by simp) _ st
  item := by
    intro X hP hw hK hc i pins s σ H E I hf st hg;subst hP hw hK;obtain ⟨f0, f1, f2, f3, f4, f5⟩ := hf it (by simp);have W := Walks.range (prog := X.prog) (w := X.w) (I.ok.hd hc) it lo 1 n;refine W.item i s _ _ hg st fun v h' tk hv st' kk => ?_
    obtain ⟨t, rfl⟩ := hv;have I1 : Inv X pins σ H { s with heap := h', toks := tk } := I.turned (fun b o hb e => kk b o (by simpa using hb) e) f0 f1 f3 f4 f5;refine ⟨_, rfl, js (s := { s with heap := h', toks := tk }) (n := "range_iterator") st' rfl rfl (by decide) ⟨.int (lo + i), H, I1, ⟨t, ?_⟩, ⟨rfl, rfl⟩, st', fun b hb => (hf b hb).1⟩⟩;rw [Int.mul_one]
  done := by
    intro X hP hw hK hc i pins s σ H E I hf st hg;subst hP hw hK;obtain ⟨f0, f1, f2, f3, f4, f5⟩ := hf it (by simp);exact wpAny_pyNext_range_end (I.ok.hd hc) st (by have : n <= i := hg; omega) fun h' eb => ⟨rfl, I.turned (t' := s.toks) (fun b o hb e => eb b o hb e) f0 f1 f3 f4 f5⟩
  self := fun _ _ _ _ _ st h => wpAny_pyIter_rangeiter st h
end L2
namespace L2
open PySem PySem.Spec PyProof.Rows
section
variable {X : Cx} {tg : Expr}
def iList (K : Fg) (tl : TE) : TI := fun σ H R => tl σ H fun x H1 => ∃ a, x = .ref a /\ (∃ xs, SqL K H1 a xs) /\ R (Itl K a) H1
def iTup (K : Fg) (tl : TE) : TI := fun σ H R => tl σ H fun x H1 => ∃ a, x = .ref a /\ (∃ xs, SqT K H1 a xs) /\ R (Itt K a) H1
theorem yh {l : Expr} {tl : TE} (hl : PE X l tl) : PI X tg l (iList X.K tl) := by
  intro pins s σ H R I h;refine thn (hl pins s σ H _ I h) fun v s1 ⟨x, H1, I1, r1, q1⟩ => ?_
  obtain ⟨a, e, ⟨xs, hq⟩, q⟩ := q1;subst e;cases r1;obtain ⟨its, rv, p, hz⟩ := I1.list hq;refine wpAny_pyIter_list p.isList ?_;refine ⟨s1.heap.objs.size, [s1.heap.objs.size], _, _, H1, rfl, I1.kept (t' := s1.toks) fun b o e => Heap.get?_push_of_some _ e, zex a _, ⟨_, Heap.get?_push_size _ rfl, rfl, rfl⟩, fun b hb => ?_, q⟩;have e : b = s1.heap.objs.size := by simpa using hb
  subst e;exact I1.fpOk (Zm _) (I1.hok.fresh (Zm _))
theorem gw {l : Expr} {tl : TE} (hl : PE X l tl) : PI X tg l (iTup X.K tl) := by
  intro pins s σ H R I h;refine thn (hl pins s σ H _ I h) fun v s1 ⟨x, H1, I1, r1, q1⟩ => ?_
  obtain ⟨a, e, ⟨xs, hq⟩, q⟩ := q1;subst e;cases r1;obtain ⟨its, rv, p, hz⟩ := I1.tuple hq;refine wpAny_pyIter_tuple (show s1.heap.IsTuple a its.toArray from p) ?_;refine ⟨s1.heap.objs.size, [s1.heap.objs.size], _, _, H1, rfl, I1.kept (t' := s1.toks) fun b o e => Heap.get?_push_of_some _ e, zcs a _, ⟨_, Heap.get?_push_size _ rfl, rfl, rfl⟩, fun b hb => ?_, q⟩;have e : b = s1.heap.objs.size := by simpa using hb
  subst e;exact I1.fpOk (Zm _) (I1.hok.fresh (Zm _))
theorem bu {pins : List (Addr × Obj)} {σ : St} {H : Hp} {s : Shared} {R : It -> Hp -> Prop} {E : Value -> Shared -> Prop} {lo hi : Int} {t u v : Tok} {tk : Nat} (I : Inv X pins σ H s) (h1 : -(2 ^ 62) <= lo) (h2 : lo < 2 ^ 62) (h3 : -(2 ^ 62) <= hi) (h4 : hi < 2 ^ 62)
    (q : R (Itr lo (hi - lo).toNat) H) : wpAny (model X.prog X.w) X.A (pyIter (.ref s.heap.objs.size)) (PIE X pins σ tg R) E { s with heap := s.heap.push { cls := .type "range", data := .fields #[.int lo t, .int hi u, .int 1 v] }, toks := tk } := by
  refine wpAny_pyIter_range (IsRange.new ..) (small_one h1 h2 h3 h4) ?_;have I1 : Inv X pins σ H { s with heap := s.heap.push { cls := .type "range", data := .fields #[.int lo t, .int hi u, .int 1 v] }, toks := tk } := I.kept fun b o e => Heap.get?_push_of_some _ e
  refine ⟨(s.heap.push { cls := .type "range", data := .fields #[.int lo t, .int hi u, .int 1 v] }).objs.size, [(s.heap.push { cls := .type "range", data := .fields #[.int lo t, .int hi u, .int 1 v] }).objs.size], _, _, H, rfl,
    I1.kept (t' := tk) fun b o e => Heap.get?_push_of_some _ e, zc3 _ lo (hi - lo).toNat, ?_, fun b hb => ?_, q⟩
  . have e1 : lo + ((0 : Nat) : Int) * 1 = lo := by simp
    have e2 : (((hi - lo).toNat : Nat) : Int) - ((0 : Nat) : Int) = Builtin.Range.rangeSize lo hi 1 := by rw [rangeSize_one]; split <;> omega
    show IsRangeIter _ _ (lo + ((0 : Nat) : Int) * 1) ((((hi - lo).toNat : Nat) : Int) - ((0 : Nat) : Int)) 1
    rw [e1, e2];exact Heap.get?_push_size _ rfl
  . have e : b = (s.heap.push { cls := .type "range", data := .fields #[.int lo t, .int hi u, .int 1 v] }).objs.size := by simpa using hb
    subst e;exact I1.fpOk (Zm _) (I1.hok.fresh (Zm _))
def iRng1 (ta : TA) : TI := fun σ H R => ta σ H fun vs H1 => ∃ j : Int, vs = [.int j] /\ -(2 ^ 62) <= j /\ j < 2 ^ 62 /\ R (Itr 0 j.toNat) H1
def iRng2 (ta : TA) : TI := fun σ H R => ta σ H fun vs H1 => ∃ i j : Int, vs = [.int i, .int j] /\ (-(2 ^ 62) <= i /\ i < 2 ^ 62 /\ -(2 ^ 62) <= j /\ j < 2 ^ 62) /\ R (Itr i (j - i).toNat) H1
theorem yi {a : Expr} {ta : TA} {p pos : Pos} (hg : Gl X "range") (hm : X.mg "range" = none) (ha : PA X [a] ta) (hs : starEach [a] X.env = [(false, eval a X.env)] := by rfl) : PI X tg (.Call (.Name "range" p) [a] [] pos) (iRng1 ta) := by
  intro pins s σ H R I h;refine Call_ (v5 I hg hm boot_range (PyProof.Rows.callWith_type1 (thn (ha pos pins s σ H _ I h) fun us s1 ⟨vs, H1, I1, r1, q1⟩ => ?_) hs rfl));obtain ⟨j, e, q1, q2, q⟩ := q1;subst e
  cases r1 with
  | cons r rr =>
    cases rr;obtain ⟨t, rfl⟩ := r;exact call_range_1 (bu I1 (by omega) (by omega) q1 q2 (by simpa using q))
theorem jm {a b : Expr} {ta : TA} {p pos : Pos} (hg : Gl X "range") (hm : X.mg "range" = none) (ha : PA X [a, b] ta) (hs : starEach [a, b] X.env = [(false, eval a X.env), (false, eval b X.env)] := by rfl) (hs2 : starEach [b] X.env = [(false, eval b X.env)] := by rfl) :
    PI X tg (.Call (.Name "range" p) [a, b] [] pos) (iRng2 ta) := by
  intro pins s σ H R I h;refine Call_ (v5 I hg hm boot_range (PyProof.Rows.callWith_type1 (thn (ha pos pins s σ H _ I h) fun us s1 ⟨vs, H1, I1, r1, q1⟩ => ?_) (by rw [hs, hs2]) (by rw [hs2]; rfl)));obtain ⟨i, j, e, ⟨q1, q2, q3, q4⟩, q⟩ := q1;subst e
  cases r1 with
  | cons r rr =>
    cases rr with
    | cons r' rr =>
      cases rr;obtain ⟨t, rfl⟩ := r;obtain ⟨t', rfl⟩ := r';exact call_range_2 (bu I1 q1 q2 q3 q4 q)
def tFor (wi : TI) (g : TG) (tb : TS) : TS := fun D σ H => wi σ H fun J H1 => ∃ W : Nat -> Nat -> St -> Hp -> Prop, (∃ m, W 0 m σ H1) /\ ∀ i m σ H, W i m σ H ->
  (J.stop i H /\ D.nx σ H) \/ (J.go i H /\ ∃ N : St -> Hp -> Prop, (∀ σ' H', N σ' H' -> ∃ m', m' < m /\ W (i + 1) m' σ' H') /\ ∀ x H', J.yld i H x H' -> g x σ H' fun σ2 H2 => tb { D with nx := N, ct := N, bk := D.nx } σ2 H2)
def m8 (fp : List Addr) (h : Heap) : List (Addr × Obj) := fp.filterMap fun b => (h.get? b).map fun o => (b, o)
theorem wt {fp : List Addr} {h : Heap} {b : Addr} {o : Obj} (hb : b ∈ fp) (e : h.get? b = some o) : (b, o) ∈ m8 fp h := ZS.mpr ⟨b, hb, by rw [e]; rfl⟩
theorem zeb {fp : List Addr} {h : Heap} {p : Addr × Obj} (hp : p ∈ m8 fp h) : p.1 ∈ fp /\ h.get? p.1 = some p.2 := by
  obtain ⟨b, hb, e⟩ := ZS.mp hp
  cases q : h.get? b with
  | none => rw [q] at e; cases e
  | some o =>
    rw [q] at e;have e' : (b, o) = p := Option.some.inj e;subst e';exact ⟨hb, q⟩
theorem Inv.pinned {pins : List (Addr × Obj)} {σ : St} {H : Hp} {s : Shared} {fp : List Addr} (I : Inv X pins σ H s) (hf : ∀ b ∈ fp, FpOk X pins H b) (ho : ∀ b ∈ fp, ∃ o, s.heap.get? b = some o /\ ∀ v, o.data ≠ .cell v) : Inv X (pins ++ m8 fp s.heap) σ H s :=
  I.pins_of fun p hp => (ZH.mp hp).elim (fun z => I.pin p (Zu _ z)) fun z => by
    obtain ⟨hb, e⟩ := zeb z;obtain ⟨f0, f1, f2, _⟩ := hf p.1 hb;obtain ⟨o, e', d⟩ := ho p.1 hb;rw [e] at e'; cases e';exact ⟨e, f0, f1, f2, d⟩
theorem Inv.unpinned {pins pl : List (Addr × Obj)} {σ : St} {H : Hp} {s : Shared} (I : Inv X (pins ++ pl) σ H s) : Inv X pins σ H s := I.pins_of fun p hp => I.pin p (Zu _ (ZV _ hp))
theorem yw {iter : Expr} {body : List Stmt} {wi : TI} {g : TG} {tb : TS} {pos : Pos} (hp : PassesOwn (model X.prog X.w) X.A X.env X.xe) (hc : X.calm = true) (hi : PI X tg iter wi) (hg : PG X tg g) (hb : PSs X body tb)
    (hs : ∀ x, foldedSetIterable iter X.env x = pure x := by intro _; rfl) : PS X (.For tg iter body [] pos) (tFor wi g tb) := by
  intro pins s σ H D I h;refine wpAny_For (thn (hi pins s σ H _ I h) fun v s1 h1 => thn h1 fun itv s2 h2 => ?_) hs;obtain ⟨it, fp, tn, J, H2, e, I2, T, st2, f2, W, ⟨m0, w0⟩, turn⟩ := h2;subst e
  -- what stays true of the iterator's objects through the loop
  have stat : ∀ {H' : Hp}, (∀ b ∈ fp, H' b = none) -> ∀ b ∈ fp, FpOk X pins H' b := fun hn b hb => ⟨hn b hb, (f2 b hb).2⟩
  refine codeAny_forLoop_any (fun n s' => ∃ i σ' H', Inv X pins σ' H' s' /\ tn i s'.heap /\ (∀ b ∈ fp, H' b = none) /\ W i n σ' H') ?_ m0 ⟨0, σ, H2, I2, st2, fun b hb => (f2 b hb).1, w0⟩
  rintro n s3 ⟨i, σ3, H3, I3, st3, fr3, w3⟩
  rcases turn i n σ3 H3 w3 with ⟨stop, qn⟩ | ⟨go, N, hN, step⟩
  . refine wpAny_passesOwn hp (thn (T.done X rfl rfl rfl hc i pins s3 σ3 H3 X.xe I3 (stat fr3) st3 stop) fun r s4 ⟨hr, I4⟩ => ?_)
    subst hr;exact wpAny_execs_nil ⟨σ3, H3, I4, qn⟩
  . refine wpAny_passesOwn hp (thn (T.item X rfl rfl rfl hc i pins s3 σ3 H3 X.xe I3 (stat fr3) st3 go) fun r s4 ⟨u, hr, h4⟩ => ?_)
    subst hr;refine wpAny_passesOwn hp (thn h4 fun _ s5 ⟨x, H5, I5, r5, y5, st5, fr5⟩ => ?_);have I5' := I5.pinned (stat fr5) (T.obj _ _ st5);refine wpAny_passesOwn hp (thn (hg _ s5 σ3 H5 x u _ I5' r5 (step x H5 y5)) fun _ s6 ⟨σ6, H6, I6, q6⟩ => ?_);refine wpAny_passesOwn hp (thn (hb _ s6 σ6 H6 _ I6 q6) fun f s7 q7 => ?_)
    have again : ∀ {σ7 : St} {H7 : Hp}, Inv X (pins ++ m8 fp s5.heap) σ7 H7 s7 -> N σ7 H7 -> ∃ m, m < n /\ ∃ i σ' H', Inv X pins σ' H' s7 /\ tn i s7.heap /\ (∀ b ∈ fp, H' b = none) /\ W i m σ' H' := fun {σ7 H7} I7 n7 => by
      obtain ⟨m', hm, w7⟩ := hN σ7 H7 n7;refine ⟨m', hm, i + 1, σ7, H7, I7.unpinned, T.keep _ _ _ st5 fun b hb o e => (I7.pin (b, o) (Zu _ (Zu _ (wt hb e)))).1, fun b hb => ?_, w7⟩;obtain ⟨o, e, d⟩ := T.obj _ _ st5 b hb;exact (I7.pin (b, o) (Zu _ (Zu _ (wt hb e)))).2.1
    cases f with
    | next => obtain ⟨σ7, H7, I7, n7⟩ := q7; exact again I7 n7
    | cont => obtain ⟨σ7, H7, I7, n7⟩ := q7; exact again I7 n7
    | brk => obtain ⟨σ7, H7, I7, q7⟩ := q7; exact ⟨σ7, H7, I7.unpinned, q7⟩
    | ret v => obtain ⟨x7, σ7, H7, I7, r7, q7⟩ := q7; exact ⟨x7, σ7, H7, I7.unpinned, r7, q7⟩
end
theorem wf {K : Fg} {a : Addr} {xs : List V} {g : TG} {tb : TS} {D : Ends} {σ : St} {H : Hp} (Pv : Nat -> St -> Hp -> Prop) (h0 : Pv 0 σ H) (hl : ∀ i σ H, i <= xs.length -> Pv i σ H -> SqL K H a xs)
    (hs : ∀ i x σ H, xs[i]? = some x -> Pv i σ H -> g x σ H fun σ2 H2 => tb { D with nx := Pv (i + 1), ct := Pv (i + 1), bk := D.nx } σ2 H2) (hd : ∀ σ H, Pv xs.length σ H -> D.nx σ H) :
    ∃ W : Nat -> Nat -> St -> Hp -> Prop, (∃ m, W 0 m σ H) /\ ∀ i m σ H, W i m σ H ->
      ((Itl K a).stop i H /\ D.nx σ H) \/ ((Itl K a).go i H /\ ∃ N : St -> Hp -> Prop, (∀ σ' H', N σ' H' -> ∃ m', m' < m /\ W (i + 1) m' σ' H') /\ ∀ x H', (Itl K a).yld i H x H' -> g x σ H' fun σ2 H2 => tb { D with nx := N, ct := N, bk := D.nx } σ2 H2) := by
  refine ⟨fun i m σ H => m = xs.length - i /\ i <= xs.length /\ Pv i σ H, ⟨xs.length, by simp, ZE _, h0⟩, ?_⟩
  rintro i m σ H ⟨rfl, hi, p⟩
  have q := hl i σ H hi p
  by_cases hlt : i < xs.length
  . refine .inr ⟨⟨xs, xs[i], q, by simp [hlt]⟩, Pv (i + 1), fun σ' H' p' => ⟨xs.length - (i + 1), by omega, rfl, hlt, p'⟩, fun x H' y => ?_⟩
    obtain ⟨e, y⟩ := y;subst e;exact hs i x σ _ (y xs q) p
  . have e : i = xs.length := by omega
    subst e;exact .inl ⟨⟨xs, q, Zm _⟩, hd σ H p⟩
theorem zgt {K : Fg} {a : Addr} {xs : List V} {g : TG} {tb : TS} {D : Ends} {σ : St} {H : Hp} (Pv : Nat -> St -> Hp -> Prop) (h0 : Pv 0 σ H) (hl : ∀ i σ H, i <= xs.length -> Pv i σ H -> SqT K H a xs)
    (hs : ∀ i x σ H, xs[i]? = some x -> Pv i σ H -> g x σ H fun σ2 H2 => tb { D with nx := Pv (i + 1), ct := Pv (i + 1), bk := D.nx } σ2 H2) (hd : ∀ σ H, Pv xs.length σ H -> D.nx σ H) :
    ∃ W : Nat -> Nat -> St -> Hp -> Prop, (∃ m, W 0 m σ H) /\ ∀ i m σ H, W i m σ H ->
      ((Itt K a).stop i H /\ D.nx σ H) \/ ((Itt K a).go i H /\ ∃ N : St -> Hp -> Prop, (∀ σ' H', N σ' H' -> ∃ m', m' < m /\ W (i + 1) m' σ' H') /\ ∀ x H', (Itt K a).yld i H x H' -> g x σ H' fun σ2 H2 => tb { D with nx := N, ct := N, bk := D.nx } σ2 H2) := by
  refine ⟨fun i m σ H => m = xs.length - i /\ i <= xs.length /\ Pv i σ H, ⟨xs.length, by simp, ZE _, h0⟩, ?_⟩
  rintro i m σ H ⟨rfl, hi, p⟩
  have q := hl i σ H hi p
  by_cases hlt : i < xs.length
  . refine .inr ⟨⟨xs, xs[i], q, by simp [hlt]⟩, Pv (i + 1), fun σ' H' p' => ⟨xs.length - (i + 1), by omega, rfl, hlt, p'⟩, fun x H' y => ?_⟩
    obtain ⟨e, y⟩ := y;subst e;exact hs i x σ _ (y xs q) p
  . have e : i = xs.length := by omega
    subst e;exact .inl ⟨⟨xs, q, Zm _⟩, hd σ H p⟩
theorem xh {lo : Int} {n : Nat} {g : TG} {tb : TS} {D : Ends} {σ : St} {H : Hp} (Pv : Nat -> St -> Hp -> Prop) (h0 : Pv 0 σ H)
    (hs : ∀ i σ H, i < n -> Pv i σ H -> g (.int (lo + i)) σ H fun σ2 H2 => tb { D with nx := Pv (i + 1), ct := Pv (i + 1), bk := D.nx } σ2 H2) (hd : ∀ σ H, Pv n σ H -> D.nx σ H) :
    ∃ W : Nat -> Nat -> St -> Hp -> Prop, (∃ m, W 0 m σ H) /\ ∀ i m σ H, W i m σ H ->
      ((Itr lo n).stop i H /\ D.nx σ H) \/ ((Itr lo n).go i H /\ ∃ N : St -> Hp -> Prop, (∀ σ' H', N σ' H' -> ∃ m', m' < m /\ W (i + 1) m' σ' H') /\ ∀ x H', (Itr lo n).yld i H x H' -> g x σ H' fun σ2 H2 => tb { D with nx := N, ct := N, bk := D.nx } σ2 H2) := by
  refine ⟨fun i m σ H => m = n - i /\ i <= n /\ Pv i σ H, ⟨n, by simp, ZE _, h0⟩, ?_⟩
  rintro i m σ H ⟨rfl, hi, p⟩
  by_cases hlt : i < n
  . refine .inr ⟨hlt, Pv (i + 1), fun σ' H' p' => ⟨n - (i + 1), by omega, rfl, hlt, p'⟩, fun x H' y => ?_⟩
    obtain ⟨e, y⟩ := y;subst e y;exact hs i σ _ hlt p
  . have e : i = n := by omega
    subst e;exact .inl ⟨Zm _, hd σ H p⟩
end L2
namespace L2
open PySem PySem.Spec PyProof.Rows
abbrev R2 := V -> V -> Hp -> VK -> Prop
def OpR (X : Cx) (f : Value -> Value -> Sem Value) (r : R2) : Prop :=
  ∀ (pins : List (Addr × Obj)) (s : Shared) (σ : St) (H : Hp) (x y : V) (v u : Value) (Q : VK), Inv X pins σ H s -> RelV x v -> RelV y u -> r x y H Q ->
    wpAny (model X.prog X.w) X.A (f v u) (EP X pins σ Q) X.xe s
def UnR (X : Cx) (f : Value -> Sem Value) (r : V -> Hp -> VK -> Prop) : Prop :=
  ∀ (pins : List (Addr × Obj)) (s : Shared) (σ : St) (H : Hp) (x : V) (v : Value) (Q : VK), Inv X pins σ H s -> RelV x v -> r x H Q ->
    wpAny (model X.prog X.w) X.A (f v) (EP X pins σ Q) X.xe s
def xt (X : Cx) (f : Value) (r : List V -> Hp -> VK -> Prop) : Prop :=
  ∀ (pins : List (Addr × Obj)) (s : Shared) (σ : St) (H : Hp) (xs : List V) (us : List Value) (Q : VK), Inv X pins σ H s -> Vals xs us -> r xs H Q ->
    wpAny (model X.prog X.w) X.A (call f us) (EP X pins σ Q) X.xe s
def tOp (r : R2) (ta tb : TE) : TE := fun σ H Q => ta σ H fun x H1 => tb σ H1 fun y H2 => r x y H2 Q
def tUn (r : V -> Hp -> VK -> Prop) (ta : TE) : TE := fun σ H Q => ta σ H fun x H1 => r x H1 Q
def rI (C : Int -> Int -> Prop) (g : Int -> Int -> V) : R2 := fun x y H Q => ∃ i j, x = .int i /\ y = .int j /\ C i j /\ Q (g i j) H
def rI0 (g : Int -> Int -> V) : R2 := fun x y H Q => ∃ i j, x = .int i /\ y = .int j /\ Q (g i j) H
def rU (g : Int -> V) : V -> Hp -> VK -> Prop := fun x H Q => ∃ i, x = .int i /\ Q (g i) H
section
variable {X : Cx} {a b c : Expr} {ta tb tc : TE} {pos : Pos}
theorem binT (ha : PE X a ta) (hb : PE X b tb) {pins : List (Addr × Obj)} {s : Shared} {σ : St} {H : Hp} {R : V -> V -> Hp -> Prop} (I : Inv X pins σ H s)
    (h : ta σ H fun x H1 => tb σ H1 fun y H2 => R x y H2) {Q : Value -> Shared -> Prop} {f : Value -> Value -> Sem Value}
    (hf : ∀ v u s2 x y H2, Inv X pins σ H2 s2 -> RelV x v -> RelV y u -> R x y H2 -> wpAny (model X.prog X.w) X.A (f v u) Q X.xe s2) :
    wpAny (model X.prog X.w) X.A (eval a X.env) (fun v s₁ => wpAny (model X.prog X.w) X.A (eval b X.env) (fun u s₂ => wpAny (model X.prog X.w) X.A (f v u) Q X.xe s₂) X.xe s₁) X.xe s := by
  refine thn (ha pins s σ H _ I h) fun v s1 ⟨x, H1, I1, r1, q1⟩ => ?_
  refine thn (hb pins s1 σ H1 _ I1 q1) fun u s2 ⟨y, H2, I2, r2, q2⟩ => ?_
  exact hf v u s2 x y H2 I2 r1 r2 q2
theorem zl {op : Operator} {r : R2} (ho : OpR X (binaryOp op) r) (ha : PE X a ta) (hb : PE X b tb) : PE X (.BinOp a op b pos) (tOp r ta tb) := by
  intro pins s σ H Q I h;exact wpAny_BinOp (binT ha hb I h fun v u s2 x y H2 I2 rx ry q => ho pins s2 σ H2 x y v u Q I2 rx ry q)
theorem cm {op : UnaryOp} {r : V -> Hp -> VK -> Prop} (ho : UnR X (unaryOp op) r) (ha : PE X a ta) : PE X (.UnaryOp op a pos) (tUn r ta) := by
  intro pins s σ H Q I h;exact UnaryOp_ (thn (ha pins s σ H _ I h) fun v s1 ⟨x, H1, I1, r1, q1⟩ => ho pins s1 σ H1 x v Q I1 r1 q1)
theorem opI {f : Value -> Value -> Sem Value} {C : Int -> Int -> Prop} {g : Int -> Int -> Int}
    (rule : ∀ (i j : Int) (t u : Tok) (s : Shared) (Q : Value -> Shared -> Prop) (E : Value -> Shared -> Prop), C i j -> Q (.int (g i j) s.toks) { s with toks := s.toks + 1 } -> wpAny (model X.prog X.w) X.A (f (.int i t) (.int j u)) Q E s) :
    OpR X f (rI C fun i j => .int (g i j)) := by
  intro pins s σ H x y v u Q I rx ry h;obtain ⟨i, j, rfl, rfl, hc, q⟩ := h;obtain ⟨t, rfl⟩ := rx;obtain ⟨t', rfl⟩ := ry;exact rule i j t t' s _ _ hc ⟨.int (g i j), H, I.tok _, ⟨_, rfl⟩, q⟩
theorem opI0 {f : Value -> Value -> Sem Value} {g : Int -> Int -> Int}
    (rule : ∀ (i j : Int) (t u : Tok) (s : Shared) (Q : Value -> Shared -> Prop) (E : Value -> Shared -> Prop), Q (.int (g i j) s.toks) { s with toks := s.toks + 1 } -> wpAny (model X.prog X.w) X.A (f (.int i t) (.int j u)) Q E s) :
    OpR X f (rI0 fun i j => .int (g i j)) := by
  intro pins s σ H x y v u Q I rx ry h;obtain ⟨i, j, rfl, rfl, q⟩ := h;obtain ⟨t, rfl⟩ := rx;obtain ⟨t', rfl⟩ := ry;exact rule i j t t' s _ _ ⟨.int (g i j), H, I.tok _, ⟨_, rfl⟩, q⟩
theorem opB0 {f : Value -> Value -> Sem Value} {g : Int -> Int -> Bool}
    (rule : ∀ (i j : Int) (t u : Tok) (s : Shared) (Q : Value -> Shared -> Prop) (E : Value -> Shared -> Prop), Q (.bool (g i j)) s -> wpAny (model X.prog X.w) X.A (f (.int i t) (.int j u)) Q E s) :
    OpR X f (rI0 fun i j => .bl (g i j)) := by
  intro pins s σ H x y v u Q I rx ry h;obtain ⟨i, j, rfl, rfl, q⟩ := h;obtain ⟨t, rfl⟩ := rx;obtain ⟨t', rfl⟩ := ry;exact rule i j t t' s _ _ ⟨.bl (g i j), H, I, rfl, q⟩
def CDiv (i j : Int) : Prop := 0 < j /\ j < 1073741824
def CPow (i j : Int) : Prop := 0 <= j /\ j <= 1000000 /\ i.natAbs < 2 ^ 64
def CMul (i j : Int) : Prop := (-(2 ^ 64) < i /\ i < 2 ^ 64) \/ (-(2 ^ 64) < j /\ j < 2 ^ 64)
theorem CMul.ok {i j : Int} (h : CMul i j) : IntMulOk i j := by
  rcases h with ⟨h1, h2⟩ | ⟨h1, h2⟩
  . exact .of_left (intBits_le_64 h1 h2)
  . exact .of_right (intBits_le_64 h1 h2)
theorem yp : OpR X (binaryOp .Add) (rI0 fun i j => .int (i + j)) := opI0 fun _ _ _ _ _ _ _ q => add_int q
theorem wy : OpR X (binaryOp .Sub) (rI0 fun i j => .int (i - j)) := opI0 fun _ _ _ _ _ _ _ q => sub_int q
theorem u3 : OpR X (binaryOp .Mult) (rI CMul fun i j => .int (i * j)) := opI fun _ _ _ _ _ _ _ hc q => mul_int q hc.ok
theorem xa : OpR X (binaryOp .FloorDiv) (rI CDiv fun i j => .int (i / j)) := opI fun i j _ _ _ _ _ hc q => by
  have h1 : (0 : Int) < j := hc.1;have h2 : j < 1073741824 := hc.2;exact floordiv_int (by omega) (by rw [Int.fdiv_eq_ediv_of_nonneg i (by omega)]; exact q) (.inl (PyProof.noPylong_small (by omega)))
theorem yl : OpR X (binaryOp .Mod) (rI (fun _ j => 0 < j) fun i j => .int (i % j)) := opI fun i j _ _ _ _ _ hc q => by
  have h1 : (0 : Int) < j := hc;exact mod_int' (by omega) (by rw [Int.fmod_eq_emod_of_nonneg i (by omega)]; exact q)
theorem m4 : OpR X (binaryOp .Pow) (rI CPow fun i j => .int (i ^ j.toNat)) := opI fun _ _ _ _ _ _ _ hc q => pow_int_small hc.1 hc.2.1 hc.2.2 q
theorem unI {f : Value -> Sem Value} {g : Int -> Int}
    (rule : ∀ (i : Int) (t : Tok) (s : Shared) (Q : Value -> Shared -> Prop) (E : Value -> Shared -> Prop), Q (.int (g i) s.toks) { s with toks := s.toks + 1 } -> wpAny (model X.prog X.w) X.A (f (.int i t)) Q E s) :
    UnR X f (rU fun i => .int (g i)) := by
  intro pins s σ H x v Q I rx h;obtain ⟨i, rfl, q⟩ := h;obtain ⟨t, rfl⟩ := rx;exact rule i t s _ _ ⟨.int (g i), H, I.tok _, ⟨_, rfl⟩, q⟩
theorem g6 : UnR X (unaryOp .USub) (rU fun i => .int (-i)) := unI fun _ _ _ _ _ q => neg_int q
end
def scal : V -> V -> Bool
  | .non, .non => true | .non, .int _ => true | .int _, .non => true | .non, .bl _ => true | .bl _, .non => true | .non, .str _ => true | .str _, .non => true
  | .int _, .int _ => true | .bl _, .bl _ => true | .str _, .str _ => true | .byt _, .byt _ => true
  | .int _, .str _ => true | .str _, .int _ => true | .bl _, .str _ => true | .str _, .bl _ => true
  | _, _ => false
def rEq : R2 := fun x y H Q => scal x y = true /\ Q (.bl (decide (x = y))) H
def rNe : R2 := fun x y H Q => scal x y = true /\ Q (.bl (!decide (x = y))) H
theorem zcc {i j : Int} : decide (V.int i = V.int j) = (i == j) := by
  rw [Bool.eq_iff_iff];simp
theorem zfj {i j : Bool} : decide (V.bl i = V.bl j) = (i == j) := by
  rw [Bool.eq_iff_iff];simp
theorem zby {i j : Str} : decide (V.str i = V.str j) = (i == j) := by
  rw [Bool.eq_iff_iff];simp
theorem zb3 {i j : Array UInt8} : decide (V.byt i = V.byt j) = (i.toList == j.toList) := by
  rw [Bool.eq_iff_iff];cases i;cases j;simp
section
variable {X : Cx} {a b c : Expr} {ta tb tc : TE} {pos : Pos}
theorem yj {pins : List (Addr × Obj)} {σ : St} {H : Hp} {s : Shared} {Q : VK} {k k' : Bool} (I : Inv X pins σ H s) (q : Q (.bl k) H) (e : k = k') : EP X pins σ Q (.bool k') s := by
  subst e;exact ⟨.bl k, H, I, rfl, q⟩
theorem pq : OpR X (compareOp .Eq) rEq := by
  intro pins s σ H x y v u Q I rx ry h;obtain ⟨hs, q⟩ := h
  cases x with
  | non =>
    cases rx
    cases y with
    | non => cases ry; exact PySem.EqNone.eq_none_none (yj I q (by simp))
    | bl j => cases ry; exact PySem.EqNone.eq_none_bool (yj I q (by simp))
    | int j => obtain ⟨t', rfl⟩ := ry; exact PySem.EqNone.eq_none_int (yj I q (by simp))
    | str j => obtain ⟨t', rfl⟩ := ry; exact PySem.EqNone.eq_none_str (yj I q (by simp))
    | _ => exact absurd (show false = true from hs) Bool.false_ne_true
  | bl i =>
    cases rx
    cases y with
    | non => cases ry; exact PySem.EqNone.eq_bool_none (yj I q (by simp))
    | bl j => cases ry; exact eq_bool (yj I q zfj)
    | str j => obtain ⟨t', rfl⟩ := ry; exact PySem.EqMixed.eq_bool_str (yj I q (by simp))
    | _ => exact absurd (show false = true from hs) Bool.false_ne_true
  | int i =>
    obtain ⟨t, rfl⟩ := rx
    cases y with
    | non => cases ry; exact PySem.EqNone.eq_int_none (yj I q (by simp))
    | int j => obtain ⟨t', rfl⟩ := ry; exact eq_int (yj I q zcc)
    | str j => obtain ⟨t', rfl⟩ := ry; exact PySem.EqMixed.eq_int_str (yj I q (by simp))
    | _ => exact absurd (show false = true from hs) Bool.false_ne_true
  | str i =>
    obtain ⟨t, rfl⟩ := rx
    cases y with
    | non => cases ry; exact PySem.EqNone.eq_str_none (yj I q (by simp))
    | bl j => cases ry; exact PySem.EqMixed.eq_str_bool (yj I q (by simp))
    | int j => obtain ⟨t', rfl⟩ := ry; exact PySem.EqMixed.eq_str_int (yj I q (by simp))
    | str j => obtain ⟨t', rfl⟩ := ry; exact eq_str (yj I q zby)
    | _ => exact absurd (show false = true from hs) Bool.false_ne_true
  | byt i =>
    obtain ⟨t, rfl⟩ := rx
    cases y with
    | byt j => obtain ⟨t', rfl⟩ := ry; exact PySem.W.eq_bytes (yj I q zb3)
    | _ => exact absurd (show false = true from hs) Bool.false_ne_true
  | _ => cases y <;> exact absurd (show false = true from hs) Bool.false_ne_true
theorem cz : OpR X (compareOp .NotEq) rNe := by
  intro pins s σ H x y v u Q I rx ry h;obtain ⟨hs, q⟩ := h
  cases x with
  | non =>
    cases rx
    cases y with
    | non => cases ry; exact PySem.EqNone.ne_none_none (yj I q (by simp))
    | bl j => cases ry; exact PySem.EqNone.ne_none_bool (yj I q (by simp))
    | int j => obtain ⟨t', rfl⟩ := ry; exact PySem.EqNone.ne_none_int (yj I q (by simp))
    | str j => obtain ⟨t', rfl⟩ := ry; exact PySem.EqNone.ne_none_str (yj I q (by simp))
    | _ => exact absurd (show false = true from hs) Bool.false_ne_true
  | bl i =>
    cases rx
    cases y with
    | non => cases ry; exact PySem.EqNone.ne_bool_none (yj I q (by simp))
    | bl j => cases ry; exact ne_bool (yj I q (congrArg not zfj))
    | str j => obtain ⟨t', rfl⟩ := ry; exact PySem.EqMixed.ne_bool_str (yj I q (by simp))
    | _ => exact absurd (show false = true from hs) Bool.false_ne_true
  | int i =>
    obtain ⟨t, rfl⟩ := rx
    cases y with
    | non => cases ry; exact PySem.EqNone.ne_int_none (yj I q (by simp))
    | int j => obtain ⟨t', rfl⟩ := ry; exact ne_int (yj I q (congrArg not zcc))
    | str j => obtain ⟨t', rfl⟩ := ry; exact PySem.EqMixed.ne_int_str (yj I q (by simp))
    | _ => exact absurd (show false = true from hs) Bool.false_ne_true
  | str i =>
    obtain ⟨t, rfl⟩ := rx
    cases y with
    | non => cases ry; exact PySem.EqNone.ne_str_none (yj I q (by simp))
    | bl j => cases ry; exact PySem.EqMixed.ne_str_bool (yj I q (by simp))
    | int j => obtain ⟨t', rfl⟩ := ry; exact PySem.EqMixed.ne_str_int (yj I q (by simp))
    | str j => obtain ⟨t', rfl⟩ := ry; exact ne_str (yj I q (congrArg not zby))
    | _ => exact absurd (show false = true from hs) Bool.false_ne_true
  | byt i =>
    obtain ⟨t, rfl⟩ := rx
    cases y with
    | byt j => obtain ⟨t', rfl⟩ := ry; exact PySem.W.ne_bytes (yj I q (congrArg not zb3))
    | _ => exact absurd (show false = true from hs) Bool.false_ne_true
  | _ => cases y <;> exact absurd (show false = true from hs) Bool.false_ne_true
theorem gz : OpR X (compareOp .Lt) (rI0 fun i j => .bl (decide (i < j))) := opB0 fun _ _ _ _ _ _ _ q => lt_int q
theorem gq : OpR X (compareOp .LtE) (rI0 fun i j => .bl (decide (i <= j))) := opB0 fun _ _ _ _ _ _ _ q => le_int q
theorem i4 : OpR X (compareOp .Gt) (rI0 fun i j => .bl (decide (j < i))) := opB0 fun _ _ _ _ _ _ _ q => gt_int q
theorem op_isN : OpR X (compareOp .Is) (fun x y H Q => y = .non /\ Q (.bl (decide (x = .non))) H) := by
  intro pins s σ H x y v u Q I rx ry h;obtain ⟨rfl, q⟩ := h;cases ry;refine is_none_gen (yj I q ?_)
  cases x <;> first
    | (cases rx; rfl)
    | (obtain ⟨t, rfl⟩ := rx; rfl)
theorem fu : OpR X (compareOp .IsNot) (fun x y H Q => y = .non /\ Q (.bl (!decide (x = .non))) H) := by
  intro pins s σ H x y v u Q I rx ry h;obtain ⟨rfl, q⟩ := h;cases ry;refine isnot_none_gen (yj I q ?_)
  cases x <;> first
    | (cases rx; rfl)
    | (obtain ⟨t, rfl⟩ := rx; rfl)
theorem yq (b : Expr) {op : CmpOp} (h : op ≠ .In := by decide) (h2 : op ≠ .NotIn := by decide) : behindInMarks op b = false := by
  have e1 : (op == CmpOp.In) = false := by cases op <;> first | rfl | exact absurd rfl h
  have e2 : (op == CmpOp.NotIn) = false := by cases op <;> first | rfl | exact absurd rfl h2
  cases b <;> simp [behindInMarks, e1, e2]
theorem se {op : CmpOp} {r : R2} (ho : OpR X (compareOp op) r) (ha : PE X a ta) (hb : PE X b tb) (hm : behindInMarks op b = false) : PE X (.Compare a [op] [b] pos) (tOp r ta tb) := by
  intro pins s σ H Q I h;exact wpAny_Compare1 (binT ha hb I h fun v u s2 x y H2 I2 rx ry q => ho pins s2 σ H2 x y v u Q I2 rx ry q) hm
def zc9 (t : TE) : TT := fun σ H Q => t σ H fun x H' => ∃ k, x = .bl k /\ Q k H'
theorem yv {op : CmpOp} {r : R2} (ho : OpR X (compareOp op) r) (ha : PE X a ta) (hb : PE X b tb) (hm : behindInMarks op b = false) : PT X (.Compare a [op] [b] pos) (zc9 (tOp r ta tb)) := by
  intro pins s σ H Q I h
  refine wpAny_isTrue_Compare1 (thn (ha pins s σ H _ I h) fun v s1 ⟨x, H1, I1, r1, q1⟩ => thn (hb pins s1 σ H1 _ I1 q1) fun u s2 ⟨y, H2, I2, r2, q2⟩ =>
    thn (ho pins s2 σ H2 x y v u _ I2 r1 r2 q2) fun c s3 ⟨z, H3, I3, r3, k, e, q3⟩ => ?_) hm
  subst e;cases r3;exact wpAny_truthy_bool ⟨H3, I3, q3⟩
def ax (r r' : R2) (ta tb tc : TE) : TE := fun σ H Q => ta σ H fun x H1 => tb σ H1 fun y H2 => r x y H2 fun z H3 => ∃ k, z = .bl k /\
  (if k = true then tc σ H3 fun w' H4 => r' y w' H4 Q else Q (.bl false) H3)
theorem zga {op op' : CmpOp} {r r' : R2} (ho : OpR X (compareOp op) r) (ho' : OpR X (compareOp op') r') (ha : PE X a ta) (hb : PE X b tb) (hc : PE X c tc)
    (hm : lastMarks [op, op'] [b, c] = false := by with_unfolding_all rfl) : PE X (.Compare a [op, op'] [b, c] pos) (ax r r' ta tb tc) := by
  intro pins s σ H Q I h
  refine Compare_chain (thn (ha pins s σ H _ I h) fun v s1 ⟨x, H1, I1, r1, q1⟩ => chain_link (thn (hb pins s1 σ H1 _ I1 q1) fun u s2 ⟨y, H2, I2, r2, q2⟩ =>
    thn (ho pins s2 σ H2 x y v u _ I2 r1 r2 q2) fun d s3 ⟨z, H3, I3, r3, k, e, q3⟩ => ?_)) hm
  subst e;cases r3;refine wpAny_truthy_bool ?_
  cases k with
  | false => exact ite_ff ⟨.bl false, H3, I3, rfl, q3⟩
  | true => exact ite_tt (chain_last (thn (hc pins s3 σ H3 _ I3 q3) fun w' s4 ⟨z', H4, I4, r4, q4⟩ => ho' pins s4 σ H4 y z' u w' Q I4 r2 r4 q4))
theorem zai {op op' : CmpOp} {r r' : R2} (ho : OpR X (compareOp op) r) (ho' : OpR X (compareOp op') r') (ha : PE X a ta) (hb : PE X b tb) (hc : PE X c tc)
    (hm : lastMarks [op, op'] [b, c] = false := by with_unfolding_all rfl) : PT X (.Compare a [op, op'] [b, c] pos) (zc9 (ax r r' ta tb tc)) := by
  intro pins s σ H Q I h
  refine isTrue_chain (thn (ha pins s σ H _ I h) fun v s1 ⟨x, H1, I1, r1, q1⟩ => test_link (thn (hb pins s1 σ H1 _ I1 q1) fun u s2 ⟨y, H2, I2, r2, q2⟩ =>
    thn (ho pins s2 σ H2 x y v u _ I2 r1 r2 q2) fun d s3 ⟨z, H3, I3, r3, k, e, q3⟩ => ?_)) hm
  subst e;cases r3;refine wpAny_truthy_bool ?_
  cases k with
  | false =>
    obtain ⟨k', e', q'⟩ := q3;cases e';exact ite_ff ⟨H3, I3, q'⟩
  | true =>
    refine ite_tt (test_last (thn (hc pins s3 σ H3 _ I3 q3) fun w' s4 ⟨z', H4, I4, r4, q4⟩ => thn (ho' pins s4 σ H4 y z' u w' _ I4 r2 r4 q4) fun d' s5 ⟨z2, H5, I5, r5, k2, e2, q5⟩ => ?_));subst e2;cases r5;exact wpAny_truthy_bool ⟨H5, I5, q5⟩
theorem nh : (sizeLine : Nat) < 2 ^ 63 := by rw [sizeLine_eq]; decide
theorem gp : OpR X (binaryOp .Add) (fun x y H Q => ∃ i j, x = .str i /\ y = .str j /\ i.length + j.length <= sizeLine /\ Q (.str (i ++ j)) H) := by
  intro pins s σ H x y v u Q I rx ry h;obtain ⟨i, j, rfl, rfl, hz, q⟩ := h;obtain ⟨t, rfl⟩ := rx;obtain ⟨t', rfl⟩ := ry;exact add_str (fun t' tk => ⟨.str (i ++ j), H, I.tok _, ⟨_, rfl⟩, q⟩) hz
theorem rc {x : V} {us : List Value} (r : Vals [x] us) : ∃ u, us = [u] /\ RelV x u := by
  cases r with
  | cons r1 r2 => cases r2; exact ⟨_, rfl, r1⟩
theorem vals2 {x y : V} {us : List Value} (r : Vals [x, y] us) : ∃ u w', us = [u, w'] /\ RelV x u /\ RelV y w' := by
  cases r with
  | cons r1 r2 =>
    cases r2 with
    | cons r3 r4 => cases r4; exact ⟨_, _, rfl, r1, r3⟩
theorem zf1 : xt X (.builtin "abs") (fun xs H Q => ∃ i, xs = [.int i] /\ Q (.int (if i < 0 then -i else i)) H) := by
  intro pins s σ H xs us Q I r h;obtain ⟨i, rfl, q⟩ := h;obtain ⟨u, rfl, t, rfl⟩ := rc r;exact call_abs_int fun u tk => ⟨.int (if i < 0 then -i else i), H, I.tok _, ⟨_, rfl⟩, q⟩
theorem ze4 (hc : X.calm = true) : xt X (.builtin "max") (fun xs H Q => ∃ i j, xs = [.int i, .int j] /\ Q (.int (if j > i then j else i)) H) := by
  intro pins s σ H xs us Q I r h;obtain ⟨i, j, rfl, q⟩ := h;obtain ⟨u, w', rfl, ⟨t, rfl⟩, ⟨t', rfl⟩⟩ := vals2 r;refine max_two_ints (I.ok.hd hc) fun h' tk k => ⟨_, H, I.kept k, ?_, q⟩
  by_cases hj : j > i
  . rw [if_pos hj, if_pos hj]; exact ⟨_, rfl⟩
  . rw [if_neg hj, if_neg hj]; exact ⟨_, rfl⟩
theorem ze6 (hc : X.calm = true) : xt X (.builtin "min") (fun xs H Q => ∃ i j, xs = [.int i, .int j] /\ Q (.int (if j < i then j else i)) H) := by
  intro pins s σ H xs us Q I r h;obtain ⟨i, j, rfl, q⟩ := h;obtain ⟨u, w', rfl, ⟨t, rfl⟩, ⟨t', rfl⟩⟩ := vals2 r;refine min_two_ints (I.ok.hd hc) fun h' tk k => ⟨_, H, I.kept k, ?_, q⟩
  by_cases hj : j < i
  . rw [if_pos hj, if_pos hj]; exact ⟨_, rfl⟩
  . rw [if_neg hj, if_neg hj]; exact ⟨_, rfl⟩
theorem zeo : xt X (.type "int") (fun xs H Q => (∃ i, xs = [.int i] /\ Q (.int i) H) \/ ∃ k, xs = [.bl k] /\ Q (.int (if k then 1 else 0)) H) := by
  intro pins s σ H xs us Q I r h
  rcases h with ⟨i, rfl, q⟩ | ⟨k, rfl, q⟩
  . obtain ⟨u, rfl, t, rfl⟩ := rc r
    exact call_int_int ⟨.int i, H, I, ⟨_, rfl⟩, q⟩
  . obtain ⟨u, rfl, r1⟩ := rc r
    cases r1;exact call_int_bool ⟨.int (if k then 1 else 0), H, I.tok _, ⟨_, rfl⟩, q⟩
end
end L2
namespace L2
open PySem PySem.Spec PyProof.Rows
structure ObjM (h : Heap) (x dx C : Addr) (mA : Str -> Option Value) : Prop where
  obj : h.get? x = some (PySem.W.instObj C dx)
  ns : h.Ns1 dx mA
  ne : dx ≠ x
theorem ze7 {h : Heap} {dx : Addr} {mA : Str -> Option Value} (n : h.Ns1 dx mA) : ∃ od, h.get? dx = some od /\ ∀ name, PySem.W.lookIn name od = some (mA name) := by
  obtain ⟨o, es, ep, ho, hd, hk, _, hm⟩ := n;refine ⟨o, ho, fun name => ?_⟩;have e := hm name;unfold nsFind findBy at e;rw [<- Array.find?_toList] at e;unfold PySem.W.lookIn;rw [hd];dsimp only
  split
  . rename_i y q
    rw [q] at e;exact congrArg some e
  . rename_i q
    rw [q] at e
    have a : es.toList.any (·.refKey) = false := by
      rw [List.any_eq_false];intro y hy;obtain ⟨z, t, hkey⟩ := hk y (Array.mem_toList_iff.mp hy);simp [DictEntry.refKey, hkey]
    have a' : ¬ es.toList.any (·.refKey) = true := by rw [a]; exact Bool.false_ne_true
    rw [if_neg a'];exact congrArg some e
theorem ObjM.look {h : Heap} {x dx C : Addr} {mA : Str -> Option Value} (I : ObjM h x dx C mA) : ∃ od, PySem.W.InstAt h x (PySem.W.instObj C dx) C (some od) /\ ∀ name, PySem.W.lookIn name od = some (mA name) :=
  let ⟨od, ho, hl⟩ := ze7 I.ns
  ⟨od, ⟨I.obj, rfl, rfl, ho⟩, hl⟩
section
variable {prog : Program} {w : World} {A : Around} {E : Value -> Shared -> Prop} {s : Shared} {K : Fg} {x dx C f : Addr} {mA : Str -> Option Value} {name : Str} {v : Value}
end
theorem RelO.some_of {v : V} {o : Option Value} (r : RelO (some v) o) : ∃ u, o = some u /\ RelV v u := by
  cases o with
  | none => exact (show False from r).elim
  | some u => exact ⟨u, rfl, r⟩
section
variable {P : Program} {w : World} {H H' : Hp} {h h' : Heap} {a C dx : Addr} {fs fs' : List (Str × V)}
theorem zg0 (hok : HOk P w H h) (e : H a = some (.ins C dx fs)) : ∃ mA, ObjM h a dx C mA /\ (∀ f, RelO (fs.lookup f) (mA f)) /\ PySem.Within mA (fs.map (·.1)) /\ fs.length <= 1000 /\ H dx = some (.own a) := by
  obtain ⟨d, z, ne, ob, mA, n, r, q⟩ := (show ObjOk P w H h a (.ins C dx fs) from hok a _ e);exact ⟨mA, ⟨ob, n, ne⟩, r, q, z, d⟩
end
structure Cls (K : Fg) (C : Addr) : Prop where
  pg : PySem.W.plainGet K C Str.empty = true
  hd : PySem.W.hasDictIn K C = true
  po : PySem.W.plainOver K C = true
  sa : PySem.W.findIn K (.ref C) "__setattr__" = some (some (.builtin "object.__setattr__"))
theorem Cls.get {K : Fg} {C : Addr} (c : Cls K C) (f : Str) : PySem.W.plainGet K C f = true := c.pg
section
variable {X : Cx} {pins : List (Addr × Obj)} {σ : St} {H : Hp} {s : Shared} {a C dx : Addr} {fs : List (Str × V)} {f : Str} {v : V} {A : Around} {E : Value -> Shared -> Prop}
end
section
variable {X : Cx} {o e value : Expr} {f : Str} {pos pos' tpos : Pos} {ta tv : TE}
end
section
variable {X : Cx} {pins : List (Addr × Obj)} {σ : St} {H : Hp} {s : Shared} {A : Around} {E : Value -> Shared -> Prop} {Q : Value -> Shared -> Prop} {c : Value} {b : Bool}
inductive TyOf (K : Fg) (H : Hp) : V -> Value -> Prop where
  | non : TyOf K H .non (.type "NoneType")
  | bl (x : Bool) : TyOf K H (.bl x) (.type "bool")
  | int (i : Int) : TyOf K H (.int i) (.type "int")
  | str (x : Str) : TyOf K H (.str x) (.type "str")
  | flt (x : UInt64) : TyOf K H (.flt x) (.type "float")
  | lst {a : Addr} {xs : List V} (e : H a = some (.lst xs)) : TyOf K H (.ref a) (.type "list")
  | frz {a : Addr} {o : Obj} {xs : List V} (e : H a = some (.frz o (.lst xs))) : TyOf K H (.ref a) (.type "list")
  | tup {a : Addr} {xs : List V} (e : H a = some (.tup xs)) : TyOf K H (.ref a) (.type "tuple")
  | dK {a : Addr} {kvs : List (Key × V)} (e : H a = some (.dK kvs)) : TyOf K H (.ref a) (.type "dict")
  | dT {a : Addr} {kvs : List (List Key × V)} (e : H a = some (.dT kvs)) : TyOf K H (.ref a) (.type "dict")
  | ins {a C dx : Addr} {fs : List (Str × V)} (e : H a = some (.ins C dx fs)) (cl : Cls K C) (ha : PySem.W.findIn K (.ref C) "__class__" = some (some (.builtin "object.__class__")))
      (hn : PySem.W.specialIn K (.builtin "object.__class__") "__get__" = some (some (.builtin "getset_descriptor.__get__"))) (htk : PySem.W.takesIn K (.builtin "object.__class__") = some true)
      (hm : PySem.W.mroIn K C (.type "object") = some true) : TyOf K H (.ref a) (.ref C)
theorem zff {x : V} {u t : Value} (I : Inv X pins σ H s) (rx : RelV x u) (ty : TyOf X.K H x t) (e : PySem.W.kitOne X.K t c = some b) (h : ∀ tk, Q (.bool b) { s with toks := tk }) :
    wpAny (model X.prog X.w) A (call (.builtin "isinstance") [u, c]) Q E s := by
  cases ty with
  | non => cases (show u = Value.none from rx); exact PySem.W.kia_one PySem.W.kitx_none I.kIn True.intro e (fun z => nomatch z) h
  | bl y => cases (show u = Value.bool y from rx); exact PySem.W.kia_one PySem.W.kitx_bool I.kIn True.intro e (fun z => nomatch z) h
  | int i => obtain ⟨t, q⟩ := (show ∃ t, u = Value.int i t from rx); cases q; exact PySem.W.kia_one PySem.W.kitx_int I.kIn True.intro e (fun z => nomatch z) h
  | str y => obtain ⟨t, q⟩ := (show ∃ t, u = Value.str y t from rx); cases q; exact PySem.W.kia_one PySem.W.kitx_str I.kIn True.intro e (fun z => nomatch z) h
  | flt y => obtain ⟨t, q⟩ := (show ∃ t, u = Value.float y t from rx); cases q; exact PySem.W.kia_one PySem.W.kitx_float I.kIn True.intro e (fun z => nomatch z) h
  | @lst a xs ea =>
    cases (show u = Value.ref a from rx);obtain ⟨_, _, n, _, h1⟩ := (show ObjOk X.prog X.w H s.heap a (.lst xs) from I.hok a _ ea);exact PySem.W.kia_one PySem.W.kitx_list I.kIn ⟨_, h1, rfl⟩ e (fun z => nomatch z) h
  | @frz a ob xs ea =>
    cases (show u = Value.ref a from rx);obtain ⟨_, _, _, n, _, h1⟩ := (show ObjOk X.prog X.w H s.heap a (.frz ob (.lst xs)) from I.hok a _ ea);exact PySem.W.kia_one PySem.W.kitx_list I.kIn ⟨_, h1, rfl⟩ e (fun z => nomatch z) h
  | @tup a xs ea =>
    cases (show u = Value.ref a from rx);obtain ⟨_, _, _, p⟩ := (show ObjOk X.prog X.w H s.heap a (.tup xs) from I.hok a _ ea);obtain ⟨o, h1, h2, _⟩ := p;exact PySem.W.kia_one PySem.W.kitx_tuple I.kIn ⟨o, h1, h2⟩ e (fun z => nomatch z) h
  | @dK a kvs ea =>
    cases (show u = Value.ref a from rx);obtain ⟨_, _, vs, _, p⟩ := (show ObjOk X.prog X.w H s.heap a (.dK kvs) from I.hok a _ ea);obtain ⟨o, es, ep, h1, h2, _⟩ := p;exact PySem.W.kia_one PySem.W.kitx_dict I.kIn ⟨o, h1, h2.1⟩ e (fun z => nomatch z) h
  | @dT a kvs ea =>
    cases (show u = Value.ref a from rx);obtain ⟨_, _, xs, _, o, es, ep, h1, h2, _⟩ := (show ObjOk X.prog X.w H s.heap a (.dT kvs) from I.hok a _ ea);exact PySem.W.kia_one PySem.W.kitx_dict I.kIn ⟨o, h1, h2.1⟩ e (fun z => nomatch z) h
  | @ins a C dx fs ea cl ha hn htk hm =>
    cases (show u = Value.ref a from rx);obtain ⟨mA, O, _⟩ := zg0 I.hok ea;obtain ⟨od, J, _⟩ := O.look;exact PySem.W.kia_one (PySem.W.kitx_own (cl.get _) cl.hd ha hn htk hm) I.kIn J e (fun z => nomatch z) h
end
end L2
namespace L2
open PySem PySem.Spec PyProof.Rows
structure Room (k : Nat) (A : Around) : Prop where
  hd : A.handled = none
  dp : A.depth + 3 * k + 5 < recursionLimit
  un : A.units + 16 * k + 200 < cLine
theorem Room.mono {j k : Nat} {A : Around} (r : Room k A) (h : j <= k) : Room j A := ⟨r.hd, by have := r.dp; omega, by have := r.un; omega⟩
theorem Room.deeper {k : Nat} {A : Around} (r : Room (k + 1) A) (env : Env) : Room k (A.deeper env) :=
  ⟨r.hd, by have := r.dp; show A.depth + 1 + 3 * k + 5 < _; omega, by have := r.un; show A.units + 3 + 16 * k + 200 < _; omega⟩
theorem Room.in1 {k : Nat} {A : Around} (r : Room (k + 1) A) : Room k A.in1 :=
  ⟨r.hd, by have := r.dp; show A.depth + 3 * k + 5 < _; omega, by have := r.un; show A.units + 1 + 16 * k + 200 < _; omega⟩
theorem Room.depth {k : Nat} {A : Around} (r : Room k A) : A.depth < recursionLimit := by have := r.dp; omega
theorem Room.units {k : Nat} {A : Around} (r : Room k A) : A.units + 64 < cLine := by have := r.un; omega
def tNil : TA := fun _ H Q => Q [] H
def zc4 (ta : TE) (tr : TA) : TA := fun σ H Q => ta σ H fun x H1 => tr σ H1 fun xs H2 => Q (x :: xs) H2
section
variable {X : Cx} {e : Expr} {es : List Expr} {te : TE} {t : TA} {pos : Pos}
theorem zb : PA X [] tNil := fun _ _ _ _ H Q I h => Calls.spliced_nil ⟨[], H, I, .nil, h⟩
theorem za (ha : PE X e te) (hr : PA X es t) (hs : starEach (e :: es) X.env = (false, eval e X.env) :: starEach es X.env := by rfl) : PA X (e :: es) (zc4 te t) := by
  intro pos pins s σ H Q I h;rw [hs]
  show wpAny _ _ (spliced ((false, eval e X.env) :: backTo pos (starEach es X.env))) _ _ s
  refine Calls.spliced_cons (thn (ha pins s σ H _ I h) fun u s1 ⟨x, H1, I1, r1, q1⟩ => ?_);exact thn (hr pos pins s1 σ H1 _ I1 q1) fun us s2 ⟨xs, H2, I2, r2, q2⟩ => ⟨x :: xs, H2, I2, .cons r1 r2, q2⟩
def tTup (t : TA) : TE := fun σ H Q => t σ H fun xs H1 => xs.length <= sizeLine /\ ∀ p, H1 p = none -> Q (.ref p) (upd H1 p (.tup xs))
def tLst (t : TA) : TE := fun σ H Q => t σ H fun xs H1 => xs.length <= sizeLine /\ ∀ p, H1 p = none -> Q (.ref p) (upd H1 p (.lst xs))
theorem y9 {x1} (h : PA X es t) : PE X (.Tuple es x1 pos) (tTup t) := by
  intro pins s σ H Q I hq;refine wpAny_Tuple_spliced (thn (h pos pins s σ H _ I hq) fun us s1 ⟨xs, H1, I1, r, z, q⟩ => ⟨by rw [<- r.length]; exact z, ?_⟩);have hf : H1 s1.heap.objs.size = none := I1.hok.fresh (Zm _);refine ⟨.ref s1.heap.objs.size, upd H1 s1.heap.objs.size (.tup xs), I1.laid (t' := s1.toks) (fun b u e => Heap.get?_push_of_some _ e) (Zm _) ?_, rfl, q _ hf⟩;exact ⟨z, us, r, ⟨_, Heap.get?_push_size _ rfl, rfl, _, rfl, rfl⟩⟩
theorem y8 (h : PA X es t) : PE X (.List es pos) (tLst t) := by
  intro pins s σ H Q I hq;refine wpAny_List_spliced (thn (h pos pins s σ H _ I hq) fun us s1 ⟨xs, H1, I1, r, z, q⟩ => ⟨by rw [<- r.length]; exact z, ?_⟩);have hf : H1 s1.heap.objs.size = none := I1.hok.fresh (Zm _);refine ⟨.ref s1.heap.objs.size, upd H1 s1.heap.objs.size (.lst xs), I1.laid (t' := s1.toks) (fun b u e => Heap.get?_push_of_some _ e) (Zm _) ?_, rfl, q _ hf⟩;exact ⟨z, us, 0, r, Heap.get?_push_size _ rfl⟩
end
abbrev Sp := List V -> Hp -> VK -> XK -> Prop
abbrev CXT := List Env -> Hp -> Shared -> XK -> Value -> Shared -> Prop
structure Env0 (P : Program) (w : World) (K : Fg) (mg : Str -> Option Value) (base : Heap) (A : Around) (outer : List Env) (s : Shared) (H : Hp) : Prop where
  frames : A.frames = some outer
  mod : Mod K mg base
  bs : ∀ b o, base.get? b = some o -> s.heap.get? b = some o /\ H b = none
  bsz : base.objs.size <= s.heap.objs.size
  funs : s.heap.FunFrames base outer
  frf : ∀ b ∈ frs outer, H b = none
  hok : HOk P w H s.heap
  bare : AllBare s.gens
def CE (outer : List Env) (P : Program) (w : World) (H : Hp) (s : Shared) (Q : VK) (u : Value) (s' : Shared) : Prop :=
  ∃ v H', s'.os = s.os /\ AllBare s'.gens /\ Un (frs outer) [] H H' s.heap s'.heap /\ HOk P w H' s'.heap /\ RelV v u /\ Q v H'
def CR (CX : CXT) (outer : List Env) (P : Program) (w : World) (H : Hp) (s : Shared) (Q : VK) (E : XK) (r : Result) (s' : Shared) : Prop :=
  match r with
  | .ok (.ret u) => CE outer P w H s Q u s'
  | .ok _ => False
  | .error e => CX outer H s E e s'
structure FnOk (P : Program) (w : World) (K : Fg) (mg : Str -> Option Value) (base : Heap) (CX : CXT) (k : Nat) (f : Addr) (fd : FuncData) (ps : List Str) (sp : Sp) : Prop where
  len : ∀ vs H Q E, sp vs H Q E -> vs.length = ps.length
  run : ∀ (A : Around) (outer : List Env) (s : Shared) (H : Hp) (args : Args) (us : List Value) (vs : List V) (Q : VK) (E : XK), Room k A -> Env0 P w K mg base A outer s H -> BindsTo s fd args (ps.zip us) -> Vals vs us -> sp vs H Q E ->
    codeAny (model P w) A (.call (.ref f) args) (CR CX outer P w H s Q E) s
theorem Env0.in1 {P : Program} {w : World} {K : Fg} {mg : Str -> Option Value} {base : Heap} {A : Around} {outer : List Env} {s : Shared} {H : Hp} (e : Env0 P w K mg base A outer s H) :
    Env0 P w K mg base A.in1 outer s H := ⟨e.frames, e.mod, e.bs, e.bsz, e.funs, e.frf, e.hok, e.bare⟩
section
variable {X : Cx} {pins : List (Addr × Obj)} {σ : St} {H : Hp} {s s' : Shared}
theorem Inv.env0 (I : Inv X pins σ H s) : Env0 X.prog X.w X.K X.mg X.base X.A X.stack s H :=
  ⟨I.ok.frames, I.ok.mod, I.bs, Zd I.ok.bsz I.sz, I.stack, I.stkFree, I.hok, I.bare⟩
theorem Inv.after {Q : VK} {u : Value} (I : Inv X pins σ H s) (h : CE X.stack X.prog X.w H s Q u s') : EP X pins σ Q u s' := by
  obtain ⟨v, H', os, bare, un, hok, r, q⟩ := h;obtain ⟨hh, g, d, t, os'⟩ := s';obtain rfl : os' = s.os := os;exact ⟨v, H', I.call (h' := hh) (g' := g) (d' := d) (t' := t) (ch := []) un hok bare (fun b z => absurd z (by simp)), r, q⟩
end
def cq (sp : Sp) (dvs : List V) (E : XK) (t : TA) : TE := fun σ H Q => t σ H fun vs H1 => sp (vs ++ dvs) H1 Q E
def Binds (K : Fg) (fd : FuncData) (ps : List Str) (ds : List Value) : Prop :=
  ∀ (s : Shared) (us : List Value), K.In s.heap -> (us ++ ds).length = ps.length -> BindsTo s fd ⟨us, []⟩ (ps.zip (us ++ ds))
theorem Binds.all {K : Fg} {fd : FuncData} {ps : List Str} (h : ∀ us : List Value, us.length = ps.length -> bindArgs fd ⟨us, []⟩ = pure (ps.zip us)) : Binds K fd ps [] := fun s us _ hl => by
  rw [Yw] at hl ⊢;exact .of_eq (h us hl)
def jg (CX : CXT) (X : Cx) (E : XK) : Prop := ∀ (pins : List (Addr × Obj)) (σ : St) (H : Hp) (s : Shared) (e : Value) (s' : Shared), Inv X pins σ H s -> CX X.stack H s E e s' -> X.xe e s'
section
variable {X : Cx} {CX : CXT} {k : Nat} {f C : Addr} {fd : FuncData} {ps : List Str} {sp : Sp} {dvs : List V} {ds : List Value} {E : XK} {x m : Str} {p pos apos : Pos} {e o : Expr} {es : List Expr} {ta : TE} {t : TA}
theorem run_fn {pins : List (Addr × Obj)} {σ : St} {H : Hp} {s : Shared} {Q : VK} {us : List Value} {vs : List V} (F : FnOk X.prog X.w X.K X.mg X.base CX k f fd ps sp) (hr : Room k X.A) (hb : Binds X.K fd ps ds) (hd : Vals dvs ds) (hx : jg CX X E)
    (I : Inv X pins σ H s) (r : Vals vs us) (h : sp (vs ++ dvs) H Q E) : wpAny (model X.prog X.w) X.A (call (.ref f) us) (EP X pins σ Q) X.xe s := by
  have r2 : Vals (vs ++ dvs) (us ++ ds) := r.append hd;have hl : (us ++ ds).length = ps.length := by rw [<- r2.length]; exact F.len _ _ _ _ h
  refine wpAny_call (codeAny_mono (F.run X.A X.stack s H ⟨us, []⟩ (us ++ ds) (vs ++ dvs) Q E hr I.env0 (hb s us I.kIn hl) r2 h) fun r s' hq => ?_)
  cases r with
  | error e => exact hx pins σ H s e s' I hq
  | ok fl =>
    cases fl with
    | ret u => exact I.after hq
    | next => exact False.elim hq
    | brk => exact False.elim hq
    | cont => exact False.elim hq
theorem zb4 (F : FnOk X.prog X.w X.K X.mg X.base CX k f fd ps sp) (hr : Room k X.A) (hg : Gl X x) (hm : X.mg x = some (.ref f)) (hk : PySem.W.keepIn X.K (.ref f) = true) (hb : Binds X.K fd ps ds) (hd : Vals dvs ds) (hx : jg CX X E)
    (ha : PA X (e :: es) t) (hdb : (x == ("__debug__" : Str)) = false := by decide) (he : starEach (e :: es) X.env = (false, eval e X.env) :: starEach es X.env := by rfl) (hpl : (backTo pos (starEach es X.env)).any (·.1) = false := by rfl) :
    PE X (.Call (.Name x p) (e :: es) [] pos) (cq sp dvs E t) := by
  intro pins s σ H Q I h;refine wpAny_Call_Name_kw (m7 I hg hm ?_ hdb);refine PySem.W.callWith_K (h₀ := X.base) I.ok.mod.kin hk (thn (ha pos pins s σ H _ I h) fun us s1 ⟨vs, H1, I1, r, q⟩ => ⟨I1.kIn, ?_⟩) he hpl;exact run_fn F hr hb hd hx I1 r q
end
def PK (X : Cx) (kws : List Keyword) (t : TA) : Prop :=
  ∀ (pos : Pos) (pins : List (Addr × Obj)) (s : Shared) (σ : St) (H : Hp) (Q : List V -> Hp -> Prop), Inv X pins σ H s -> t σ H Q -> wpAny (model X.prog X.w) X.A (evalAll ((backToKw pos (keywordEach kws X.env)).map (·.2))) (AP X pins σ Q) X.xe s
section
variable {X : Cx} {CX : CXT} {k : Nat} {f C : Addr} {fd : FuncData} {ps ks : List Str} {sp : Sp} {E : XK} {x m : Str} {p pos apos kpos : Pos} {e o : Expr} {es : List Expr} {kws : List Keyword} {te ta : TE} {t tk : TA} {nm : Option Str}
theorem pk_nil : PK X [] tNil := fun _ _ _ _ H Q I h => wpAny_evalAll_nil ⟨[], H, I, .nil, h⟩
theorem zhn (ha : PE X e te) (hr : PK X kws t) : PK X (⟨nm, e, kpos⟩ :: kws) (zc4 te t) := by
  intro pos pins s σ H Q I h
  show wpAny _ _ (evalAll ((do let v <- eval e X.env; standAt pos; pure v) :: (backToKw pos (keywordEach kws X.env)).map (·.2))) _ _ s
  refine wpAny_evalAll_cons (wpAny_bind (thn (ha pins s σ H _ I h) fun u s1 ⟨x, H1, I1, r1, q1⟩ => wpAny_bind (wpAny_standAt (wpAny_pure ?_))));exact thn (hr pos pins s1 σ H1 _ I1 q1) fun us s2 ⟨xs, H2, I2, r2, q2⟩ => ⟨x :: xs, H2, I2, .cons r1 r2, q2⟩
variable {g : List Value -> List Value -> List Value} {gV : List V -> List V -> List V}
end
structure zp (N P : List Str) (sc : Scope) : Prop where
  kind : sc.kind = .function
  co : sc.isCoroutine = false
  gen : sc.isGenerator = false
  nd : N.Nodup
  pre : N.take P.length = P
  par : ∀ x ∈ P, sc.names.lookup x = some .local \/ sc.names.lookup x = some .cell
  nofree : ∀ y ∈ sc.names, y.2 ≠ .free
theorem db {kindOf : Str -> Option NameKind} {x : Str} : ∀ {binds : List (Str × Value)} {m : Str -> Option Value}, (∀ v, (x, v) ∉ binds) -> bindL kindOf binds m x = m x
  | [], _, _ => rfl
  | (n, v) :: r, m, h => by
    unfold bindL;rw [db fun w hw => h w (Zv _ hw)]
    split
    . have : x ≠ n := by rintro rfl; exact h v ZA
      simp [this]
    . rfl
theorem dy {kindOf : Str -> Option NameKind} {x : Str} : ∀ {binds : List (Str × Value)} {m : Str -> Option Value}, (∀ v, (x, v) ∉ binds) -> bindC kindOf binds m x = m x
  | [], _, _ => rfl
  | (n, v) :: r, m, h => by
    unfold bindC;rw [dy fun w hw => h w (Zv _ hw)]
    split
    . rfl
    . have : x ≠ n := by rintro rfl; exact h v ZA
      simp [this]
theorem dm {kindOf : Str -> Option NameKind} {x : Str} {v : Value} : ∀ {P : List Str} {vs : List Value} {i : Nat} {m : Str -> Option Value}, P.Nodup -> P[i]? = some x -> vs[i]? = some v -> kindOf x = some .local ->
    bindL kindOf (P.zip vs) m x = some v
  | [], _, _, _, _, h, _, _ => by simp at h
  | _ :: _, [], _, _, _, _, h, _ => by simp at h
  | p :: P, w :: vs, 0, m, nd, h1, h2, hk => by
    simp at h1 h2; subst h1; subst h2
    show bindL kindOf ((p, w) :: P.zip vs) m p = _
    unfold bindL;rw [db fun v hv => (ZY.mp nd).1 (YU hv).1, if_pos hk];simp
  | p :: P, w :: vs, i + 1, m, nd, h1, h2, hk => by
    show bindL kindOf ((p, w) :: P.zip vs) m x = _
    unfold bindL;exact dm (i := i) (ZY.mp nd).2 (by simpa using h1) (by simpa using h2) hk
theorem dc {kindOf : Str -> Option NameKind} {x : Str} {v : Value} : ∀ {P : List Str} {vs : List Value} {i : Nat} {m : Str -> Option Value}, P.Nodup -> P[i]? = some x -> vs[i]? = some v -> kindOf x ≠ some .local ->
    bindC kindOf (P.zip vs) m x = some v
  | [], _, _, _, _, h, _, _ => by simp at h
  | _ :: _, [], _, _, _, _, h, _ => by simp at h
  | p :: P, w :: vs, 0, m, nd, h1, h2, hk => by
    simp at h1 h2; subst h1; subst h2
    show bindC kindOf ((p, w) :: P.zip vs) m p = _
    unfold bindC;rw [dy fun v hv => (ZY.mp nd).1 (YU hv).1, if_neg hk];simp
  | p :: P, w :: vs, i + 1, m, nd, h1, h2, hk => by
    show bindC kindOf ((p, w) :: P.zip vs) m x = _
    unfold bindC;exact dc (i := i) (ZY.mp nd).2 (by simpa using h1) (by simpa using h2) hk
def zt (N : List Str) (vs : List V) : St := vs.map some ++ List.replicate (N.length - vs.length) none
def cxOf (CX : CXT) (P : Program) (w : World) (K : Fg) (mg : Str -> Option Value) (base : Heap) (N : List Str) (qual : Str) (scope : Scope) (f : Addr) (cd : Value) (A : Around) (outer : List Env) (s : Shared) (H : Hp) (E : XK) : Cx where
  prog := P
  w := w
  K := K
  mg := mg
  base := base
  A := A.deeper (envOfC qual scope s.heap.objs.size f cd)
  N := N
  s₀ := s
  H₀ := H
  env := envOfC qual scope s.heap.objs.size f cd
  outer := outer
  stack := envOfC qual scope s.heap.objs.size f cd :: outer
  ex := []
  calm := true
  fn := fun _ => true
  pn := []
  xe := fun e s' => wpAny (model P w) (A.deeper (envOfC qual scope s.heap.objs.size f cd)) (leaving (envOfC qual scope s.heap.objs.size f cd) e) (fun _ s'' => CX outer H s E e s'') (fun e' s'' => CX outer H s E e' s'') s'
theorem ba {sc : Scope} {n : Nat} {x : Str} (h : sc.names.lookup x = some .cell) : ∃ c, (cellsFrom n sc.names []).lookup x = some c := by
  have q := PySem.W.cellsFrom_some sc.names n [] (.inl h);exact Option.isSome_iff_exists.mp q
theorem zel {CX : CXT} {P : Program} {w : World} {K : Fg} {mg : Str -> Option Value} {base : Heap} {N ps : List Str} {qual : Str} {scope : Scope} {f : Addr} {cd : Value} {A : Around} {outer : List Env} {s s1 : Shared} {H : Hp} {E : XK} {us : List Value} {vs : List V}
    (S : zp N ps scope) (hd : A.handled = none) (e0 : Env0 P w K mg base A outer s H) (hl : vs.length = ps.length) (r : Vals vs us)
    (x : InCallC s s.heap.objs.size (bindL (envOfC qual scope s.heap.objs.size f cd).kindOf (ps.zip us) fun _ => none) (cellsFrom (s.heap.objs.size + 1) scope.names []) (bindC (envOfC qual scope s.heap.objs.size f cd).kindOf (ps.zip us) fun _ => none) s1) :
    Inv (cxOf CX P w K mg base N qual scope f cd A outer s H E) [] (zt N vs) H s1 := by
  have hpl : ps.length <= N.length := by have := congrArg List.length S.pre; rw [Zj] at this; omega
  obtain ⟨h1, tk, rfl, hk⟩ := x.done;have noA : ∀ b : Addr, b ∉ (cxOf CX P w K mg base N qual scope f cd A outer s H E).ex := fun b z => absurd (show b ∈ ([] : List Addr) from z) (by simp)
  refine ⟨⟨e0.mod, S.kind, rfl, rfl, Zm _, fun y z c h1 h2 => ?_, fun y hy => ?_, fun y c _ h => ?_, fun _ => hd, Around.frames_deeper e0.frames, .inr ⟨rfl, rfl⟩, fun b z => absurd z (noA b), e0.bs, e0.bsz, fun b _ _ => noA b, fun b z => absurd z (noA b), e0.funs, e0.frf⟩,
    rfl, e0.bare, Un.kept hk, ⟨_, x.toInCall.ns, fun i y v h1 h2 h3 => ?_⟩, fun y c h => ⟨_, x.cell y c h⟩, e0.hok.fresh (Zm _), fun y c h => ?_, fun p hp => absurd (show p ∈ ([] : List (Addr × Obj)) from hp) (by simp), e0.hok.kept hk, ?_⟩
  . exact name_of_addr x.apart (PySem.mem_of_lookup h1) (PySem.mem_of_lookup h2)
  . have hy : scope.names.lookup y = some .cell \/ scope.names.lookup y = some .free := hy
    rcases hy with hy | hy
    . exact ba hy
    . exact absurd rfl (S.nofree _ (PySem.mem_of_lookup hy))
  . exact YR (x.above y c (PySem.mem_of_lookup h))
  . have hi : i < vs.length := by
      unfold zt at h2
      by_cases hi : i < vs.length
      . exact hi
      . rw [Zf (by simpa using hi)] at h2
        rw [Yk] at h2
        split at h2 <;> cases h2
    have ha : vs[i]? = some v := by
      unfold zt at h2;rw [Zg (by simpa using hi), Ze] at h2
      cases e : vs[i]? with
      | none => rw [e] at h2; cases h2
      | some a => rw [e] at h2; cases h2; rfl
    obtain ⟨u, hu, rv⟩ := r.get ha
    have hp : ps[i]? = some y := by
      rw [<- S.pre, YA (by omega)]; exact h1
    have ndP : ps.Nodup := by rw [<- S.pre]; exact S.nd.sublist (List.take_sublist _ _)
    refine ⟨u, rv, ?_⟩
    rcases S.par y (Zi hp) with k | k
    . exact .inl ⟨k, dm ndP hp hu k⟩
    . obtain ⟨c, e⟩ := ba (n := s.heap.objs.size + 1) k
      refine .inr ⟨.inl k, c, e, ?_⟩;have q := x.cell y c e;rw [dc ndP hp hu (by show scope.names.lookup y ≠ _; rw [k]; decide)] at q;exact q
  . exact e0.hok.fresh (YR (x.above y c (PySem.mem_of_lookup h)))
  . unfold zt
    show _ = N.length
    rw [Zo, Za, ZI];omega
theorem fn_of {CX : CXT} {P : Program} {w : World} {K : Fg} {mg : Str -> Option Value} {base : Heap} {k : Nat} {f : Addr} {name qual : Str} {params : Arguments} {body : List Stmt} {scope : Scope} {dV kV doc pm cdv ct oc : Value} {an od : Option Addr}
    {osl : Array (Option Value)} {N ps : List Str} {sp : Sp} (lk : K.lookup f = some ⟨oc, od, .func (PySem.W.fnOf name qual params body scope dV kV doc pm an cdv ct), osl⟩) (hcd : PySem.W.codeIn K cdv qual = true) (S : zp N ps scope)
    (len : ∀ vs H Q E, sp vs H Q E -> vs.length = ps.length)
    (hbody : ∀ (A : Around) (outer : List Env) (s : Shared) (H : Hp) (vs : List V) (Q : VK) (E : XK), Room k (A.deeper (envOfC qual scope s.heap.objs.size f cdv)) -> sp vs H Q E ->
      ∃ t, PSs (cxOf CX P w K mg base N qual scope f cdv A outer s H E) body t /\ t { nx := fun _ H' => Q .non H', rt := Q } (zt N vs) H) :
    FnOk P w K mg base CX (k + 1) f (PySem.W.fnOf name qual params body scope dV kV doc pm an cdv ct) ps sp := by
  refine ⟨len, fun A outer s H args us vs Q E hr e0 hb r hsp => ?_⟩;have hl := len _ _ _ _ hsp;have KX : K.In s.heap := e0.mod.kin.keeps fun b o e => (e0.bs b o e).1
  have lim : s.heap.NoLimit := e0.mod.nolimit.keeps fun b o e => (e0.bs b o e).1
  have hkind : ∀ y ∈ ps.zip us, scope.names.lookup y.1 = some .local \/ (scope.names.lookup y.1 = some .cell /\ ((cellsFrom (s.heap.objs.size + 1) scope.names []).lookup y.1).isSome = true) := fun ⟨n, v⟩ hy => by
    rcases S.par n (YU hy).1 with q | q
    . exact .inl q
    . exact .inr ⟨q, PySem.W.cellsFrom_some _ _ _ (.inl q)⟩
  refine codeAny_call_function hr.depth (KX _ _ lk) rfl S.co S.gen rfl (PySem.W.codeRec_of KX hcd) (hb _ _ _ _ ?_);refine wpAny_newFunctionEnv_cells S.kind hkind fun env he s1 x => ?_
  subst he;refine ⟨lim.keeps x.toInCall.keep, codeAny_func ?_⟩;obtain ⟨t, ht, hq⟩ := hbody A outer s H vs Q E (hr.deeper _) hsp;have I : Inv (cxOf CX P w K mg base N qual scope f cdv A outer s H E) [] (zt N vs) H s1 := zel S hr.hd e0 hl r x;refine wpAny_mono (ht [] s1 (zt N vs) H _ I hq) (fun fl s' hs => ?_) fun e s' hs => hs
  have fin : ∀ {σ' : St} {H' : Hp} {v : V} {u : Value}, Inv (cxOf CX P w K mg base N qual scope f cdv A outer s H E) [] σ' H' s' -> RelV v u -> Q v H' -> CE outer P w H s Q u s' :=
    fun {σ' H' v u} J rv q => ⟨v, H', J.os, J.bare, J.base, J.hok, rv, q⟩
  cases fl with
  | ret u =>
    obtain ⟨v, σ', H', J, rv, q⟩ := hs;exact fin J rv q
  | next =>
    obtain ⟨σ', H', J, q⟩ := hs;exact fin (v := V.non) (u := Value.none) J rfl q
  | brk =>
    obtain ⟨_, _, _, q⟩ := hs;exact False.elim q
  | cont =>
    obtain ⟨_, _, _, q⟩ := hs;exact False.elim q
end L2
namespace L2
open PySem PySem.Spec PyProof.Rows
section
variable {X : Cx} {x : Str} {p pos : Pos} {e : Expr} {es : List Expr} {t : TA} {id T : String} {r : List V -> Hp -> VK -> Prop}
def tCB (r : List V -> Hp -> VK -> Prop) (t : TA) : TE := fun σ H Q => t σ H fun vs H1 => r vs H1 Q
theorem zn (hc : xt X (.builtin id) r) (hg : Gl X x) (hm : X.mg x = none) (hv : bootBuiltins x = some (.builtin id)) (ha : PA X (e :: es) t) (hn : x ≠ "__name__" := by decide) (hdb : (x == ("__debug__" : Str)) = false := by decide)
    (he : starEach (e :: es) X.env = (false, eval e X.env) :: starEach es X.env := by rfl) (hpl : (backTo pos (starEach es X.env)).any (·.1) = false := by rfl) : PE X (.Call (.Name x p) (e :: es) [] pos) (tCB r t) := by
  intro pins s σ H Q I h;refine wpAny_Call_Name_kw (v5 I hg hm hv ?_ hn hdb);exact PyProof.Rows.callWith_builtin1 (thn (ha pos pins s σ H _ I h) fun us s1 ⟨vs, H1, I1, r1, q1⟩ => hc pins s1 σ H1 vs us Q I1 r1 q1) he hpl
theorem wo (hc : xt X (.type T) r) (hg : Gl X x) (hm : X.mg x = none) (hv : bootBuiltins x = some (.type T)) (ha : PA X (e :: es) t) (hn : x ≠ "__name__" := by decide) (hdb : (x == ("__debug__" : Str)) = false := by decide)
    (he : starEach (e :: es) X.env = (false, eval e X.env) :: starEach es X.env := by rfl) (hpl : (backTo pos (starEach es X.env)).any (·.1) = false := by rfl) : PE X (.Call (.Name x p) (e :: es) [] pos) (tCB r t) := by
  intro pins s σ H Q I h;refine wpAny_Call_Name_kw (v5 I hg hm hv ?_ hn hdb);exact PyProof.Rows.callWith_type1 (thn (ha pos pins s σ H _ I h) fun us s1 ⟨vs, H1, I1, r1, q1⟩ => hc pins s1 σ H1 vs us Q I1 r1 q1) he hpl
end
end L2
namespace HT
open PySem PyProof.Rows
section
open PySem.SeqAt
open PySem.AutoSeq1 (wpAny_loadPart')
open PySem.MeetsSeq PySem.MeetsSeq2 PySem.MeetsSeq3
end
section
variable {prog : Program} {w : World} {A : Around} {E : Value -> Shared -> Prop} {s : Shared}
theorem cat_tup {t b : Addr} {vs ws : List Value} {Q : Value -> Shared -> Prop} (ht : IsTup s.heap t vs.toArray) (hb : IsTup s.heap b ws.toArray) (hv : vs ≠ [])
    (h1 : ws = [] -> Q (.ref t) s) (h2 : ws ≠ [] -> Q (.ref s.heap.objs.size) { s with heap := s.heap.push { cls := .type "tuple", data := .seq (vs ++ ws).toArray } })
    (hsz : vs.length + ws.length <= sizeLine) : wpAny (model prog w) A (binaryOp .Add (.ref t) (.ref b)) Q E s := by
  obtain ⟨⟨cls, dd, data, sl⟩, ho, hc, n, hd⟩ := id ht;obtain ⟨⟨cls2, dd2, data2, sl2⟩, ho2, hc2, n2, hd2⟩ := id hb;simp only at hc hd hc2 hd2;subst hc hd hc2 hd2;have e : vs.toArray ++ ws.toArray = (vs ++ ws).toArray := by simp
  by_cases hw : ws = []
  . exact concat_meets ⟨_, ho, rfl⟩ ⟨_, ho2, rfl⟩ noFill_tuple_add seq_tuple_add PySem.F.slot_tuple_add PySem.F.entry_tuple_add (PySem.F.args_tuple_add_2 _ _)
      (tuple_addW1 t b vs.toArray ws.toArray n n2 dd dd2 sl sl2 (by simpa using hv) (by simp [hw])) ⟨ho, ho2, h1 hw⟩
  . refine concat_meets ⟨_, ho, rfl⟩ ⟨_, ho2, rfl⟩ noFill_tuple_add seq_tuple_add PySem.F.slot_tuple_add PySem.F.entry_tuple_add (PySem.F.args_tuple_add_2 _ _)
      (tuple_addW2 t b vs.toArray ws.toArray n n2 dd dd2 sl sl2 (by simpa using hv) (by simpa using hw) (by rw [Zr, Zr]; exact hsz)) ⟨ho, ho2, ?_⟩
    rw [e];exact h2 hw
def sIx (n d : Nat) : Option Int -> Nat
  | none => d
  | some v => if v < 0 then (v + (n : Int)).toNat else min v.toNat n
theorem sIx_none (n d : Nat) : sIx n d none = d := rfl
theorem sIx_nat (n d k : Nat) : sIx n d (some (k : Int)) = min k n := by
  show (if (k : Int) < 0 then ((k : Int) + (n : Int)).toNat else min (k : Int).toNat n) = min k n
  rw [if_neg (by omega), Zw]
theorem sIx_le (n d : Nat) (hd : d <= n) (o : Option Int) : sIx n d o <= n := by
  cases o with
  | none => exact hd
  | some v =>
    show (if v < 0 then (v + (n : Int)).toNat else min v.toNat n) <= n
    by_cases hv : v < 0
    . rw [if_pos hv]; omega
    . rw [if_neg hv]; exact ZB _ _
theorem zbs (v : Int) (n d : Nat) : (if v < 0 then max (v + (n : Int)) 0 else min v (n : Int)) = ((sIx n d (some v) : Nat) : Int) := by
  show (if v < 0 then max (v + (n : Int)) 0 else min v (n : Int)) = (((if v < 0 then (v + (n : Int)).toNat else min v.toNat n) : Nat) : Int)
  by_cases hv : v < 0
  . simp only [if_pos hv]; omega
  . simp only [if_neg hv]; omega
theorem zdh (lo hi : Option Int) (n : Nat) : Builtin.Slice.sliceAdjust lo hi 1 (n : Int) = (((sIx n 0 lo : Nat) : Int), ((sIx n n hi : Nat) : Int)) := by
  have h1 : ¬ ((1 : Int) < 0) := by omega
  unfold Builtin.Slice.sliceAdjust;simp only [h1, if_false];refine Prod.ext ?_ ?_
  . cases lo with
    | none => rfl
    | some v => exact zbs v n 0
  . cases hi with
    | none => rfl
    | some v => exact zbs v n n
theorem zcx (i j : Nat) : Builtin.Slice.slicePlaces (i : Int) (j : Int) 1 = j - i := by
  unfold Builtin.Slice.slicePlaces;have h1 : (1 : Int) > 0 := by omega
  simp only [h1, if_true, Int.ediv_one]
  split <;> omega
theorem i5 {v : Value} {o : Option Int} {Q : Option Int -> Shared -> Prop} (p : IsPart v o) (h : Q o s) : wpAny (model prog w) A (Builtin.Slice.slicePartIndex v) Q E s := by
  cases p with
  | none => exact slicePart_none h
  | int i t => exact slicePart_int h
theorem oi {sl : Addr} {vl vu : Value} {lo hi : Option Int} {n : Nat} {Q : Int × Int × Nat -> Shared -> Prop} (hs : s.heap.IsSliceOf sl vl vu .none) (pl : IsPart vl lo) (pu : IsPart vu hi)
    (h : Q (((sIx n 0 lo : Nat) : Int), 1, sIx n n hi - sIx n 0 lo) s) : wpAny (model prog w) A (Builtin.Slice.sliceApplied (.ref sl) (pure (n : Int))) Q E s := by
  obtain ⟨os, hos, hcs, hds⟩ := id hs;unfold Builtin.Slice.sliceApplied Builtin.Slice.sliceFields;refine wpAny_bind (wpAny_bind (wpAny_field hos hds (x := vl) rfl (wpAny_bind (wpAny_field hos hds (x := vu) rfl (wpAny_bind (wpAny_field hos hds (x := .none) rfl (wpAny_pure ?_)))))));refine wpAny_bind (slicePart_none ?_)
  show wpAny _ _ (if ((1 : Int) == 0) = true then _ else _) _ _ s
  rw [if_neg (by decide)];refine wpAny_bind (i5 pl (wpAny_bind (i5 pu (wpAny_bind (wpAny_pure ?_)))))
  show wpAny _ _ (match Builtin.Slice.sliceAdjust lo hi 1 (n : Int) with | (lo, hi) => pure (lo, (1 : Int), Builtin.Slice.slicePlaces lo hi 1)) _ _ s
  rw [zdh lo hi n]
  show wpAny _ _ (pure (((sIx n 0 lo : Nat) : Int), (1 : Int), Builtin.Slice.slicePlaces ((sIx n 0 lo : Nat) : Int) ((sIx n n hi : Nat) : Int) 1)) _ _ s
  rw [zcx];exact wpAny_pure h
theorem zfu (xs : Array Value) (i k : Nat) : ((List.range k).filterMap fun (m : Nat) => xs[((i : Int) + (m : Int) * 1).toNat]?).toArray = ((xs.toList.drop i).take k).toArray := by
  have e : (fun (m : Nat) => xs[((i : Int) + (m : Int) * 1).toNat]?) = fun m => xs[i + m]? := by
    funext m
    have : ((i : Int) + (m : Int) * 1).toNat = i + m := by omega
    rw [this]
  rw [e];have := pick_run xs i k;rw [List.filterMap_map] at this;have e2 : ((fun x => xs[x]?) ∘ fun x => i + x) = fun m => xs[i + m]? := rfl
  rw [e2] at this;rw [this]
theorem getItem_tuple_cut {t sl : Addr} {items : Array Value} {vl vu : Value} {lo hi : Option Int} {Q : Value -> Shared -> Prop} (ht : IsTup s.heap t items) (hs : s.heap.IsSliceOf sl vl vu .none) (pl : IsPart vl lo) (pu : IsPart vu hi)
    (hw : ¬ (sIx items.size 0 lo = 0 /\ sIx items.size items.size hi = items.size))
    (h : Q (.ref s.heap.objs.size) { s with heap := s.heap.push { cls := .type "tuple", data := .seq ((items.toList.drop (sIx items.size 0 lo)).take (sIx items.size items.size hi - sIx items.size 0 lo)).toArray } })
    (hsz : items.size <= sizeLine) : wpAny (model prog w) A (getItem (.ref t) (.ref sl)) Q E s := by
  have htake : sizeOk (.seq ((items.toList.drop (sIx items.size 0 lo)).take (sIx items.size items.size hi - sIx items.size 0 lo)).toArray) := by
    show ((items.toList.drop (sIx items.size 0 lo)).take (sIx items.size items.size hi - sIx items.size 0 lo)).toArray.size <= sizeLine
    rw [Zr, Zj, Ye, ZQ];omega
  have hj : sIx items.size items.size hi <= items.size := sIx_le _ _ (Zm _) hi;obtain ⟨os, hos, hcs, hds⟩ := id hs;have hTs : s.TypeIs (.ref sl) "slice" := ⟨os, hos, hcs⟩;unfold getItem
  try with_reducible refine wpAny_holding ?_
  first | refine wpAny_bind (wpAny_pure ?_) | skip
  refine wpAny_bind (wpAny_sequenceKey ht.typeIs (by decide) ?_)
  refine wpAny_bind (wpAny_callSpecial?_slot (name := Str.ofString "__getitem__") ht.typeIs PyProof.Rows.slot_tuple_getitem
    (wpAny_call_entry PyProof.Rows.slot_tuple_getitem ht.typeIs entry_tuple_getitem ?_ (args_tuple_getitem _ _)))
  show wpAny _ _ (Builtin.Tuple.tupleItemsOf (.ref t) >>= _) _ _ s
  refine wpAny_bind (tupleItemsOf_ ht ?_);refine wpAny_bind (wpAny_typeOf hTs ?_);rw [if_pos (by decide)];refine wpAny_bind (oi hs pl pu ?_)
  have hno : ¬ ((((sIx items.size 0 lo : Nat) : Int) == 0 && (1 : Int) == 1 && (sIx items.size items.size hi - sIx items.size 0 lo) == items.size) = true) := by
    intro q;rw [Bool.and_eq_true, Bool.and_eq_true] at q;have q1 : ((sIx items.size 0 lo : Nat) : Int) = 0 := eq_of_beq q.1.1;have q2 : sIx items.size items.size hi - sIx items.size 0 lo = items.size := eq_of_beq q.2;exact hw ⟨by omega, by omega⟩
  show wpAny _ _ (if (((sIx items.size 0 lo : Nat) : Int) == 0 && (1 : Int) == 1 && (sIx items.size items.size hi - sIx items.size 0 lo) == items.size) = true then _ else _) _ _ s
  rw [if_neg hno, zfu]
  first
    | exact wpAny_bind (m := Builtin.Tuple.tupleExact _) (wpAny_newObj_type (wpAny_pure ⟨_, rfl, wpAny_pure h⟩) htake)
    | exact wpAny_bind (m := Builtin.Tuple.tupleExact _) (wpAny_newObj_type (wpAny_bind (wpAny_pure (wpAny_pure ⟨_, rfl, wpAny_pure h⟩))) htake)
    | exact wpAny_bind (wpAny_bind (m := Builtin.Tuple.tupleExact _) (wpAny_newObj_type (wpAny_pure (wpAny_pure ⟨_, rfl, wpAny_pure h⟩)) htake))
    | exact wpAny_bind (wpAny_bind (m := Builtin.Tuple.tupleExact _) (wpAny_newObj_type (wpAny_pure ⟨_, rfl, wpAny_pure h⟩) htake))
end
end HT
namespace L2
open PySem PySem.Spec PyProof.Rows
abbrev TO := St -> Hp -> (Option Int -> Hp -> Prop) -> Prop
def PO (X : Cx) (e : Option Expr) (t : TO) : Prop :=
  ∀ (pins : List (Addr × Obj)) (s : Shared) (σ : St) (H : Hp) (Q : Option Int -> Hp -> Prop), Inv X pins σ H s -> t σ H Q ->
    wpAny (model X.prog X.w) X.A (evalPart e X.env) (fun u s' => ∃ o H', Inv X pins σ H' s' /\ IsPart u o /\ Q o H') X.xe s
def zcb : TO := fun _ H Q => Q none H
def tPart (t : TE) : TO := fun σ H Q => t σ H fun x H1 => ∃ i, x = .int i /\ Q (some i) H1
theorem g5 {ns : List Int} : ∀ {us : List Value}, Vals (ns.map V.int) us -> IntsAre us ns := by
  induction ns with
  | nil => intro us r; rw [YS] at r; cases r; exact .nil
  | cons n ns ih =>
    intro us r;rw [ZM] at r
    cases r with
    | cons r1 r2 =>
      obtain ⟨t, e⟩ := r1;subst e;exact .cons n t (ih r2)
section
variable {X : Cx} {e : Expr} {te : TE} {lo hi : Option Expr} {tl th : TO} {pos p2 : Pos}
theorem vv : PO X none zcb := by
  intro pins s σ H Q I h;rw [evalPart_none];exact wpAny_pure ⟨none, H, I, .none, h⟩
theorem vc (h : PE X e te) : PO X (some e) (tPart te) := by
  intro pins s σ H Q I hw;rw [evalPart_some];refine thn (h pins s σ H _ I hw) fun u s1 ⟨x, H1, I1, r1, q1⟩ => ?_
  obtain ⟨i, rfl, q⟩ := q1;obtain ⟨t, rfl⟩ := r1;exact ⟨some i, H1, I1, .int i t, q⟩
def SlR (X : Cx) (r : V -> Option Int -> Option Int -> Hp -> VK -> Prop) : Prop :=
  ∀ (pins : List (Addr × Obj)) (s : Shared) (σ : St) (H : Hp) (x : V) (v vl vu : Value) (lo hi : Option Int) (sl : Addr) (Q : VK), Inv X pins σ H s -> RelV x v -> s.heap.IsSliceOf sl vl vu .none -> IsPart vl lo -> IsPart vu hi -> r x lo hi H Q ->
    ∃ T id, typeLookup (.type T) "__getitem__" = pure (some (.builtin id)) /\ s.TypeIs v T /\ wpAny (model X.prog X.w) X.A (getItem v (.ref sl)) (EP X pins σ Q) X.xe s
def tSl (r : V -> Option Int -> Option Int -> Hp -> VK -> Prop) (te : TE) (tl th : TO) : TE := fun σ H Q => te σ H fun x H1 => tl σ H1 fun l H2 => th σ H2 fun u H3 => r x l u H3 Q
theorem wv {r : V -> Option Int -> Option Int -> Hp -> VK -> Prop} (hr : SlR X r) (he : PE X e te) (hl : PO X lo tl) (hu : PO X hi th) : PE X (.Subscript e (.Slice lo hi none p2) pos) (tSl r te tl th) := by
  intro pins s σ H Q I h;refine Subscript_ (thn (he pins s σ H _ I h) fun v s1 ⟨x, H1, I1, r1, q1⟩ => ?_);refine wpAny_Slice (thn (hl pins s1 σ H1 _ I1 q1) fun vl s2 ⟨l, H2, I2, pl, q2⟩ => thn (hu pins s2 σ H2 _ I2 q2) fun vu s3 ⟨u, H3, I3, pu, q3⟩ => ?_);rw [evalPart_none];refine wpAny_pure ?_;have I4 : Inv X pins σ H3 { s3 with heap := s3.heap.push { cls := .type "slice", data := .fields #[vl, vu, .none] } } := I3.kept (t' := s3.toks) fun b ob q => Heap.get?_push_of_some _ q
  obtain ⟨T, id, hT, ht, hg⟩ := hr pins { s3 with heap := s3.heap.push { cls := .type "slice", data := .fields #[vl, vu, .none] } } σ H3 x v vl vu l u s3.heap.objs.size Q I4 r1 (Heap.IsSliceOf.new ..) pl pu q3
  show wpAny (model X.prog X.w) X.A (subscriptTail e (.Slice lo hi none p2) v (.ref s3.heap.objs.size)) (EP X pins σ Q) X.xe { s3 with heap := s3.heap.push { cls := .type "slice", data := .fields #[vl, vu, .none] } }
  exact tail_any (ops := [.ref s3.heap.objs.size, v]) ht hT hg (by with_unfolding_all rfl)
def cutV (xs : List V) (lo hi : Option Int) : List V := (xs.drop (HT.sIx xs.length 0 lo)).take (HT.sIx xs.length xs.length hi - HT.sIx xs.length 0 lo)
theorem j7 (xs : List V) (lo hi : Option Int) : (cutV xs lo hi).length <= xs.length := by
  unfold cutV;rw [Zj, Ye];omega
def rSlT (K : Fg) : V -> Option Int -> Option Int -> Hp -> VK -> Prop := fun x lo hi H Q => ∃ a xs, x = .ref a /\ SqT K H a xs /\
  ¬ (HT.sIx xs.length 0 lo = 0 /\ HT.sIx xs.length xs.length hi = xs.length) /\ ∀ p, H p = none -> Q (.ref p) (upd H p (.tup (cutV xs lo hi)))
theorem ad : SlR X (rSlT X.K) := by
  intro pins s σ H x v vl vu lo hi sl Q I rx hs pl pu h;obtain ⟨a, xs, rfl, hx, hw, q⟩ := h;cases rx;obtain ⟨its, r, ht, hz⟩ := I.tuple hx;have hlen : its.toArray.size = xs.length := by rw [Zr]; exact r.length.symm
  refine ⟨"tuple", _, PyProof.Rows.slot_tuple_getitem.lookup, ht.typeIs, ?_⟩;refine HT.getItem_tuple_cut ht hs pl pu (by rw [hlen]; exact hw) ?_ (by rw [hlen]; exact hz);rw [hlen];refine ⟨.ref s.heap.objs.size, _, I.laid (t' := s.toks) (o := .tup (cutV xs lo hi)) (fun b ob q => Heap.get?_push_of_some _ q) (Zm _) ?_, rfl, q _ (I.hok.fresh (Zm _))⟩;exact ⟨Zd (j7 xs lo hi) hz, _, (r.drop (HT.sIx xs.length 0 lo)).take (HT.sIx xs.length xs.length hi - HT.sIx xs.length 0 lo), IsTupD.new _ _⟩
def rCatT (K : Fg) : R2 := fun x y H Q => ∃ a b xs ys, x = .ref a /\ y = .ref b /\ SqT K H a xs /\ SqT K H b ys /\ xs ≠ [] /\ xs.length + ys.length <= sizeLine /\
  (ys = [] -> Q (.ref a) H) /\ (ys ≠ [] -> ∀ p, H p = none -> Q (.ref p) (upd H p (.tup (xs ++ ys))))
theorem Vals.nil_iff {xs : List V} {us : List Value} (r : Vals xs us) : us = [] ↔ xs = [] := by
  cases r with
  | nil => simp
  | cons _ _ => simp
theorem zhq : OpR X (binaryOp .Add) (rCatT X.K) := by
  intro pins s σ H x y v u Q I rx ry h;obtain ⟨a, b, xs, ys, rfl, rfl, ha, hb, hx, hz, q1, q2⟩ := h;cases rx;cases ry;obtain ⟨its, r1, p1, _⟩ := I.tuple ha;obtain ⟨its2, r2, p2, _⟩ := I.tuple hb;refine HT.cat_tup p1 p2 (fun z => hx (r1.nil_iff.mp z)) (fun z => ⟨.ref a, H, I, rfl, q1 (r2.nil_iff.mp z)⟩) (fun z => ?_) (by rw [<- r1.length, <- r2.length]; exact hz);refine ⟨.ref s.heap.objs.size, _, I.laid (t' := s.toks) (o := .tup (xs ++ ys)) (fun b ob q => Heap.get?_push_of_some _ q) (Zm _) ?_, rfl, q2 (fun w => z (r2.nil_iff.mpr w)) _ (I.hok.fresh (Zm _))⟩;exact ⟨by rw [Zo]; exact hz, _, r1.append r2, IsTupD.new _ _⟩
end
end L2
namespace L2
open PySem PySem.Spec PyProof.Rows
def ixN (n : Nat) (i : Int) : Option Nat := if 0 <= i then (if i < n then some i.toNat else none) else if -(n : Int) <= i then some (i + n).toNat else none
def atI {α : Type} (xs : List α) (i : Int) : Option α := (ixN xs.length i).bind fun j => xs[j]?
theorem zhr {n : Nat} {i : Int} {j : Nat} (h : ixN n i = some j) : seqIndex? i n = some j /\ j < n /\ -(n : Int) <= i /\ i < n := by
  unfold ixN at h
  by_cases h0 : 0 <= i
  . rw [if_pos h0] at h
    by_cases h1 : i < n
    . rw [if_pos h1] at h
      have e : i.toNat = j := Option.some.inj h;exact ⟨by rw [seqIndex_of h0 h1, e], by omega, by omega, h1⟩
    . rw [if_neg h1] at h; cases h
  . rw [if_neg h0] at h
    by_cases h1 : -(n : Int) <= i
    . rw [if_pos h1] at h
      have e : (i + n).toNat = j := Option.some.inj h;exact ⟨by rw [seqIndex_neg (by omega) h1, e], by omega, h1, by omega⟩
    . rw [if_neg h1] at h; cases h
theorem fv {α : Type} {xs : List α} {i : Int} {v : α} (h : atI xs i = some v) : ∃ j, seqIndex? i xs.length = some j /\ xs[j]? = some v /\ j < xs.length /\ -(xs.length : Int) <= i /\ i < xs.length := by
  unfold atI at h
  cases e : ixN xs.length i with
  | none => rw [e] at h; cases h
  | some j =>
    rw [e] at h;obtain ⟨h1, h2, h3, h4⟩ := zhr e;exact ⟨j, h1, h, h2, h3, h4⟩
theorem z0 {α : Type} {xs : List α} {j : Nat} {v : α} (h : xs[j]? = some v) : atI xs (j : Int) = some v := by
  have hj : j < xs.length := (Zc.mp h).1
  have e : ixN xs.length (j : Int) = some j := by
    unfold ixN;rw [if_pos (by omega), if_pos (by omega)]; simp
  unfold atI; rw [e]; exact h
theorem zf4 {α : Type} (xs : List α) (v : α) : atI (xs ++ [v]) (-1) = some v := by
  have hl : (xs ++ [v]).length = xs.length + 1 := by simp
  have e : ixN (xs ++ [v]).length (-1) = some xs.length := by
    unfold ixN;rw [hl, if_neg (by decide), if_pos (by omega)]
    congr 1
    omega
  unfold atI;rw [e]
  show (xs ++ [v])[xs.length]? = some v
  simp
def zhw (b : Expr) : Prop := ∀ o i, subscripted b false o i = operate [o, i] (getItem o i)
def IxR (X : Cx) (r : R2) : Prop :=
  ∀ (value slice : Expr) (pins : List (Addr × Obj)) (s : Shared) (σ : St) (H : Hp) (x y : V) (v u : Value) (Q : VK), Inv X pins σ H s -> RelV x v -> RelV y u -> r x y H Q ->
    subscripted slice false v u = operate [v, u] (getItem v u) -> wpAny (model X.prog X.w) X.A (subscriptTail value slice v u) (EP X pins σ Q) X.xe s
def MtR (X : Cx) (id : String) (r : V -> List V -> Hp -> VK -> Prop) : Prop :=
  ∀ (pins : List (Addr × Obj)) (s : Shared) (σ : St) (H : Hp) (x : V) (xs : List V) (v : Value) (us : List Value) (Q : VK), Inv X pins σ H s -> RelV x v -> Vals xs us -> r x xs H Q ->
    wpAny (model X.prog X.w) X.A (call (.builtin id) (v :: us)) (EP X pins σ Q) X.xe s
section
variable {X : Cx} {a b : Expr} {ta tb : TE} {pos : Pos}
theorem zw {r : R2} (hr : IxR X r) (ha : PE X a ta) (hb : PE X b tb) (hs : zhw b) : PE X (.Subscript a b pos) (tOp r ta tb) := by
  intro pins s σ H Q I h;exact Subscript_ (binT ha hb I h fun v u s2 x y H2 I2 rx ry q => hr a b pins s2 σ H2 x y v u Q I2 rx ry q (hs _ _))
def rIxL (K : Fg) : R2 := fun x y H Q => ∃ p xs i v, x = .ref p /\ y = .int i /\ SqL K H p xs /\ atI xs i = some v /\ Q v H
def rIxT (K : Fg) : R2 := fun x y H Q => ∃ p xs i v, x = .ref p /\ y = .int i /\ SqT K H p xs /\ atI xs i = some v /\ Q v H
def rIxS : R2 := fun x y H Q => ∃ z i c, x = .str z /\ y = .int i /\ z.length <= sizeLine /\ atI z.cps.toList i = some c /\ Q (.str ⟨#[c]⟩) H
theorem z9 : IxR X (rIxL X.K) := by
  intro value slice pins s σ H x y v u Q I rx ry h hs;obtain ⟨p, xs, i, z, rfl, rfl, hq, he, q⟩ := h;cases rx;obtain ⟨t, rfl⟩ := ry;obtain ⟨its, r, pl, hz⟩ := I.list hq;obtain ⟨j, h1, h2, h3, h4, h5⟩ := fv he;obtain ⟨w, ew, rw'⟩ := r.get h2;have hl := r.length;have hn := nh;have fin : EP X pins σ Q w s := ⟨z, H, I, rw', q⟩
  by_cases h0 : 0 <= i
  . have hj : i.toNat = j := by
      rw [seqIndex_of h0 h5] at h1;exact Option.some.inj h1
    exact item_listR pl.isList h0 (by omega) (by rw [hj]; simpa using ew) fin hs
  . have hj : (i + (its.toArray.size : Int)).toNat = j := by
      rw [seqIndex_neg (by omega) h4] at h1;rw [Zr, <- hl];exact Option.some.inj h1
    exact subscriptTail_builtinR (x := w) pl.isList.typeIs slot_list_getitem.lookup
      (wpAny_getItem_list_neg (Q := fun r s' => r = w /\ EP X pins σ Q r s') pl.isList (by omega) (by rw [Zr] <;> omega) (by omega) (by rw [hj]; simpa using ew) ⟨rfl, fin⟩) hs
theorem yn : IxR X (rIxT X.K) := by
  intro value slice pins s σ H x y v u Q I rx ry h hs;obtain ⟨p, xs, i, z, rfl, rfl, hq, he, q⟩ := h;cases rx;obtain ⟨t, rfl⟩ := ry;obtain ⟨its, r, pl, hz⟩ := I.tuple hq;obtain ⟨j, h1, h2, h3, h4, h5⟩ := fv he;obtain ⟨w, ew, rw'⟩ := r.get h2;have hl := r.length;have hn := nh;have fin : EP X pins σ Q w s := ⟨z, H, I, rw', q⟩
  exact subscriptTail_builtinR (x := w) pl.typeIs slot_tuple_getitem.lookup
    (getItem_tuple (j := j) (Q := fun r s' => r = w /\ EP X pins σ Q r s') pl (by omega) (by omega) (by rw [Zr, <- hl]; exact h1) (by simpa using ew) ⟨rfl, fin⟩) hs
theorem zep : IxR X rIxS := by
  intro value slice pins s σ H x y v u Q I rx ry h hs;obtain ⟨z, i, c, rfl, rfl, hz, he, q⟩ := h;obtain ⟨t, rfl⟩ := rx;obtain ⟨t', rfl⟩ := ry;obtain ⟨j, h1, h2, h3, h4, h5⟩ := fv he;have hl : z.cps.toList.length = z.length := by simp [Str.length]
  rw [hl] at h1 h4 h5;have hn := nh
  exact tail_any (typeIs_str s z t) slot_str_getitem.lookup (getItem_str (c := c) (by
    have e1 : decide (i < -(2 ^ 63 : Int)) = false := decide_eq_false (by omega);have e2 : decide (i ≥ 2 ^ 63) = false := decide_eq_false (by omega)
    rw [e1, e2, Bool.or_false]) (by rw [h1]; simpa using h2) ⟨.str ⟨#[c]⟩, H, I.tok _, ⟨_, rfl⟩, q⟩) hs
def rSetL : V -> V -> V -> Hp -> (Hp -> Prop) -> Prop := fun o i v H Q => ∃ p xs k j, o = .ref p /\ i = .int k /\ H p = some (.lst xs) /\ ixN xs.length k = some j /\ Q (upd H p (.lst (xs.set j v)))
theorem zao (lo hi : Option Int) (n : Nat) : (sliceBounds lo hi none n).1 = ((HT.sIx n 0 lo : Nat) : Int) /\ (sliceBounds lo hi none n).2.1 = ((HT.sIx n n hi : Nat) : Int) /\ (sliceBounds lo hi none n).2.2 = 1 := by
  refine ⟨?_, ?_, rfl⟩
  . cases lo with
    | none => simp [sliceBounds, HT.sIx]
    | some i =>
      simp only [sliceBounds, HT.sIx, Option.getD_none, show (1 : Int) > 0 by decide, if_true]
      by_cases h : i < 0
      . simp only [h, if_true] <;> omega
      . simp only [h, if_false] <;> omega
  . cases hi with
    | none => simp [sliceBounds, HT.sIx]
    | some i =>
      simp only [sliceBounds, HT.sIx, Option.getD_none, show (1 : Int) > 0 by decide, if_true]
      by_cases h : i < 0
      . simp only [h, if_true] <;> omega
      . simp only [h, if_false] <;> omega
theorem cg (its : List Value) (lo hi : Option Int) : slicePick its.toArray lo hi none = ((its.drop (HT.sIx its.length 0 lo)).take (HT.sIx its.length its.length hi - HT.sIx its.length 0 lo)).toArray := by
  obtain ⟨h1, h2, h3⟩ := zao lo hi its.toArray.size;unfold slicePick;rw [h1, h2, h3];simp only [sliceRange_one, pick_run, Zr] <;> rfl
def rSlL (K : Fg) : V -> Option Int -> Option Int -> Hp -> VK -> Prop := fun x lo hi H Q => ∃ a xs, x = .ref a /\ SqL K H a xs /\ ∀ p, H p = none -> Q (.ref p) (upd H p (.lst (cutV xs lo hi)))
theorem zhl : SlR X (rSlL X.K) := by
  intro pins s σ H x v vl vu lo hi sl Q I rx hs pl pu h;obtain ⟨a, xs, rfl, hx, q⟩ := h;cases rx;obtain ⟨its, r, ht, hz⟩ := I.list hx;have hlen := r.length;refine ⟨"list", _, slot_list_getitem.lookup, ht.isList.typeIs, ?_⟩;refine wpAny_getItem_list_slice ht.isList hs pl pu .none (by simp) ?_ (by rw [Zr] <;> omega);rw [cg, <- hlen];refine ⟨.ref s.heap.objs.size, _, I.laid (t' := s.toks) (o := .lst (cutV xs lo hi)) (fun b ob q => Heap.get?_push_of_some _ q) (Zm _) ?_, rfl, q _ (I.hok.fresh (Zm _))⟩;exact ⟨Zd (j7 xs lo hi) hz, _, 0, (r.drop (HT.sIx xs.length 0 lo)).take (HT.sIx xs.length xs.length hi - HT.sIx xs.length 0 lo), Heap.get?_push_size _ rfl⟩
def xr : V -> Bool
  | .non => true
  | .bl _ => true
  | .int _ => true
  | .str _ => true
  | _ => false
def eqV : V -> V -> Bool
  | .non, .non => true
  | .bl a, .bl b => a == b
  | .bl a, .int b => (if a then 1 else 0) == b
  | .int a, .bl b => a == (if b then 1 else 0)
  | .int a, .int b => a == b
  | .str a, .str b => a == b
  | _, _ => false
theorem zfb {A : Around} {s : Shared} {y x : V} {u v : Value} (ry : RelV y u) (rx : RelV x v) (fy : xr y = true) (fx : xr x = true) : SeqAt.EqAt A s u v (eqV y x) := by
  cases y with
  | non =>
    cases ry
    cases x with
    | non => cases rx; exact SeqAt.EqAt.same _
    | bl b => cases rx; exact SeqAt.EqAt.none_bool b
    | int b => obtain ⟨t, rfl⟩ := rx; exact SeqAt.EqAt.none_int b t
    | str b => obtain ⟨t, rfl⟩ := rx; exact SeqAt.EqAt.none_str b t
    | _ => exact absurd (show false = true from fx) Bool.false_ne_true
  | bl a =>
    cases ry
    cases x with
    | non => cases rx; exact SeqAt.EqAt.bool_none a
    | bl b => cases rx; exact SeqAt.EqAt.bool_bool a b
    | int b => obtain ⟨t, rfl⟩ := rx; exact SeqAt.EqAt.bool_int a b t
    | str b => obtain ⟨t, rfl⟩ := rx; exact SeqAt.EqAt.bool_str a b t
    | _ => exact absurd (show false = true from fx) Bool.false_ne_true
  | int a =>
    obtain ⟨t', rfl⟩ := ry
    cases x with
    | non => cases rx; exact SeqAt.EqAt.int_none a t'
    | bl b => cases rx; exact SeqAt.EqAt.int_bool a t' b
    | int b => obtain ⟨t, rfl⟩ := rx; exact SeqAt.EqAt.int_int a t' b t
    | str b => obtain ⟨t, rfl⟩ := rx; exact SeqAt.EqAt.int_str a t' b t
    | _ => exact absurd (show false = true from fx) Bool.false_ne_true
  | str a =>
    obtain ⟨t', rfl⟩ := ry
    cases x with
    | non => cases rx; exact SeqAt.EqAt.str_none a t'
    | bl b => cases rx; exact SeqAt.EqAt.str_bool a t' b
    | int b => obtain ⟨t, rfl⟩ := rx; exact SeqAt.EqAt.str_int a t' b t
    | str b => obtain ⟨t, rfl⟩ := rx; exact SeqAt.EqAt.str_str a t' b t
    | _ => exact absurd (show false = true from fx) Bool.false_ne_true
  | _ => exact absurd (show false = true from fy) Bool.false_ne_true
def eqU (x : V) (u : Value) : Bool := match u with
  | .none => eqV .non x
  | .bool b => eqV (.bl b) x
  | .int i _ => eqV (.int i) x
  | .str z _ => eqV (.str z) x
  | _ => false
theorem zek {x y : V} {u : Value} (r : RelV y u) (f : xr y = true) : eqU x u = eqV y x := by
  cases y with
  | non => cases r; rfl
  | bl b => cases r; rfl
  | int i => obtain ⟨t, rfl⟩ := r; rfl
  | str z => obtain ⟨t, rfl⟩ := r; rfl
  | _ => exact absurd (show false = true from f) Bool.false_ne_true
theorem io {A : Around} {s : Shared} {x : V} {v : Value} (rx : RelV x v) (fx : xr x = true) : ∀ {xs : List V} {us : List Value}, Vals xs us -> xs.all xr = true -> ∀ u ∈ us, SeqAt.EqAt A s u v (eqU x u)
  | _, _, .nil, _ => fun u hu => by cases hu
  | y :: xs, u :: us, .cons r t, f => fun u' hu => by
    rw [List.all_cons, Bool.and_eq_true] at f
    rcases ZK.mp hu with rfl | hu
    . rw [zek r f.1]; exact zfb r rx f.1 fx
    . exact io rx fx t f.2 u' hu
def inV (x : V) (xs : List V) : Bool := xs.any fun y => eqV y x
def rIn (K : Fg) (neg : Bool) : R2 := fun x y H Q => ∃ p xs, y = .ref p /\ (SqL K H p xs \/ SqT K H p xs) /\ xr x = true /\ xs.all xr = true /\ Q (.bl (if neg then !inV x xs else inV x xs)) H
theorem zq : xt X (.builtin "len") (fun xs H Q => ∃ p ys, xs = [.ref p] /\ (SqL X.K H p ys \/ SqT X.K H p ys) /\ Q (.int ys.length) H) := by
  intro pins s σ H xs us Q I r h;obtain ⟨p, ys, rfl, hq, q⟩ := h;obtain ⟨u, rfl, rx⟩ := rc r;cases rx;have hn := nh
  rcases hq with hq | hq
  . obtain ⟨its, r', pl, hz⟩ := I.list hq
    have hlen := r'.length;exact Calls.call_len_list pl.isList (by simp only [Zr] <;> omega) ⟨.int ys.length, H, I.tok _, ⟨s.toks + 1, by rw [Zr, hlen]⟩, q⟩
  . obtain ⟨its, r', pl, hz⟩ := I.tuple hq
    have hlen := r'.length;exact len_tuple pl (by simp only [Zr] <;> omega) ⟨.int ys.length, H, I.tok _, ⟨s.toks + 1, by rw [Zr, hlen]⟩, q⟩
theorem bb : xt X (.builtin "len") (fun xs H Q => ∃ z, xs = [.str z] /\ z.length <= sizeLine /\ Q (.int z.length) H) := by
  intro pins s σ H xs us Q I r h;obtain ⟨z, rfl, hz, q⟩ := h;obtain ⟨u, rfl, t, rfl⟩ := rc r;have hn := nh;exact len_str (by omega) ⟨.int z.length, H, I.tok _, ⟨_, rfl⟩, q⟩
theorem ci : xt X (.type "tuple") (fun xs H Q => ∃ p ys, xs = [.ref p] /\ ((SqL X.K H p ys /\ ∀ l, H l = none -> Q (.ref l) (upd H l (.tup ys))) \/ (SqT X.K H p ys /\ Q (.ref p) H))) := by
  intro pins s σ H xs us Q I r h;obtain ⟨p, ys, rfl, h⟩ := h;obtain ⟨u, rfl, rx⟩ := rc r;cases rx
  rcases h with ⟨hq, q⟩ | ⟨hq, q⟩
  . obtain ⟨its, r', pl, hz⟩ := I.list hq
    have hlen := r'.length;refine call_tuple_list pl.isList (fun h' kp => ?_) (by simp only [Zr] <;> omega);have I1 : Inv X pins σ H { s with heap := h' } := I.kept (t' := s.toks) kp
    have I2 : Inv X pins σ (upd H h'.objs.size (.tup ys)) { s with heap := h'.push { cls := .type "tuple", data := .seq its.toArray } } :=
      I1.laid (t' := s.toks) (fun b o e => Heap.get?_push_of_some _ e) (Zm _) (show ObjOk X.prog X.w _ _ _ (.tup ys) from ⟨hz, its, r', IsTupD.new _ _⟩)
    exact ⟨.ref h'.objs.size, _, I2, rfl, q _ (I1.hok.fresh (Zm _))⟩
  . obtain ⟨its, r', pl, hz⟩ := I.tuple hq
    exact call_tuple_same pl ⟨.ref p, H, I, rfl, q⟩
def tyV (K : Fg) (T : String) (x : V) (H : Hp) : Prop := match x with
  | .str _ => T = "str"
  | .int _ => T = "int"
  | .ref p => (T = "list" /\ ∃ xs, SqL K H p xs) \/ (T = "tuple" /\ ∃ o, K.lookup p = some o /\ o.cls = .type "tuple" /\ o.dict = none) \/
      (T = "dict" /\ ((∃ kvs, H p = some (.dK kvs)) \/ ∃ kvs, H p = some (.dT kvs))) \/ (T = "set" /\ ∃ S n, H p = some (.set S n))
  | _ => False
theorem tyV_is {pins : List (Addr × Obj)} {σ : St} {H : Hp} {s : Shared} {T : String} {x : V} {v : Value} (I : Inv X pins σ H s) (r : RelV x v) (ty : tyV X.K T x H) :
    s.TypeIs v T /\ ∀ a, v = .ref a -> ∃ ob, s.heap.get? a = some ob /\ ob.dict = none := by
  cases x with
  | str z =>
    obtain ⟨t, rfl⟩ := r;cases (show T = "str" from ty);exact ⟨typeIs_str s z t, fun _ e => nomatch e⟩
  | int i =>
    obtain ⟨t, rfl⟩ := r;cases (show T = "int" from ty);exact ⟨typeIs_int s i t, fun _ e => nomatch e⟩
  | ref p =>
    cases r
    rcases ty with ⟨rfl, xs, hq⟩ | ⟨rfl, o, hk, hc, hd⟩ | ⟨rfl, hk⟩ | ⟨rfl, S, n, hk⟩
    . obtain ⟨its, _, pl, _⟩ := I.list hq
      refine ⟨pl.isList.typeIs, fun a e => ?_⟩;cases e;obtain ⟨o, n, e, c, hd, _⟩ := pl;exact ⟨o, e, hd⟩
    . refine ⟨⟨o, I.kIn p o hk, hc⟩, fun a e => ?_⟩
      cases e;exact ⟨o, I.kIn _ o hk, hd⟩
    . have z : ∃ o, s.heap.get? p = some o /\ o.ExactDict := by
        rcases hk with ⟨kvs, hk⟩ | ⟨kvs, hk⟩
        . obtain ⟨_, _, _, _, o, _, _, e, ex, _⟩ := I.hok p _ hk
          exact ⟨o, e, ex⟩
        . obtain ⟨_, _, _, _, o, _, _, e, ex, _⟩ := I.hok p _ hk
          exact ⟨o, e, ex⟩
      obtain ⟨o, e, ex⟩ := z;refine ⟨⟨o, e, ex.1⟩, fun a e2 => ?_⟩;cases e2;exact ⟨o, e, ex.2.1⟩
    . obtain ⟨o, _, _, _, e, ex, _⟩ := I.hok p _ hk
      refine ⟨⟨o, e, ex.1⟩, fun a e2 => ?_⟩;cases e2;exact ⟨o, e, ex.2.1⟩
  | _ => exact False.elim ty
def tBM0 (K : Fg) (T : String) (r : V -> List V -> Hp -> VK -> Prop) (to : TE) : TE := fun σ H Q => to σ H fun x H1 => tyV K T x H1 /\ r x [] H1 Q
def tBM (K : Fg) (T : String) (r : V -> List V -> Hp -> VK -> Prop) (to : TE) (t : TA) : TE := fun σ H Q => to σ H fun x H1 => tyV K T x H1 /\ t σ H1 fun xs H2 => r x xs H2 Q
variable {o e : Expr} {es : List Expr} {to : TE} {t : TA} {name : Str} {apos cpos : Pos} {T id : String} {r : V -> List V -> Hp -> VK -> Prop}
theorem t8 (pa : PlainAttrs T) (slot : Slot T name id) (hty : typeOf (.builtin id) = pure (.type "method_descriptor")) (hm : MtR X id r) (ho : PE X o to) (ha : PA X (e :: es) t)
    (hbase : attributeBase o name X.env (eval o X.env) = eval o X.env := by rfl)
    (hfew : ((backTo cpos (starEach (e :: es) X.env)).all (fun x => !x.1) && (backToKw cpos (keywordEach [] X.env)).all (fun x => x.1.isSome)
      && decide ((e :: es).length + ([] : List Keyword).length + (if ([] : List Keyword).isEmpty then 0 else 1) < 30)) = true := by rfl)
    (hline : (apos.endLine == cpos.line) = true := by rfl) (hs : starEach (e :: es) X.env = (false, eval e X.env) :: starEach es X.env := by rfl) (hplain : (backTo cpos (starEach es X.env)).any (·.1) = false := by rfl) :
    PE X (.Call (.Attribute o name apos) (e :: es) [] cpos) (tBM X.K T r to t) := by
  intro pins s σ H Q I h;refine wpAny_Call_method_late hbase hfew hline rfl (thn (ho pins s σ H _ I h) fun v s1 ⟨x, H1, I1, r1, ty, q1⟩ => ?_);obtain ⟨h1, h2⟩ := tyV_is I1 r1 ty;refine ⟨T, id, pa, slot, hty, h1, h2, ?_⟩;have hA := ha cpos pins s1 σ H1 _ I1 q1;rw [hs] at hA ⊢;refine Calls.callWith_builtin (by show (false || (backTo cpos (starEach es X.env)).any (·.1)) = false; rw [hplain] <;> rfl) (Calls.evalArgs_plain ?_);exact thn hA fun us s2 ⟨vs, H2, I2, r2, q2⟩ => hm pins s2 σ H2 x vs v us Q I2 r1 r2 q2
end
end L2
namespace L2
open PySem PySem.Spec PyProof.Rows
def MtM (X : Cx) (id : String) (r : V -> List V -> Hp -> VK -> Prop) : Prop :=
  ∀ (pins : List (Addr × Obj)) (s : Shared) (σ : St) (H : Hp) (x : V) (xs : List V) (v : Value) (us : List Value) (Q : VK), Inv X pins σ H s -> RelV x v -> Vals xs us -> r x xs H Q ->
    wpAny (model X.prog X.w) X.A (call (.builtin id) (v :: us)) (EP X pins σ Q) X.xe s
theorem Vals.one : ∀ {x : V} {us : List Value}, Vals [x] us -> ∃ u, us = [u] /\ RelV x u
  | _, _, .cons r .nil => ⟨_, rfl, r⟩
theorem Vals.two : ∀ {x y : V} {us : List Value}, Vals [x, y] us -> ∃ u v, us = [u, v] /\ RelV x u /\ RelV y v
  | _, _, _, .cons r (.cons q .nil) => ⟨_, _, rfl, r, q⟩
section
variable {X : Cx} {pins : List (Addr × Obj)} {σ : St} {H : Hp} {s : Shared} {l b : Addr} {xs ys zs : List V}
theorem Inv.lset {its its' : List Value} {n : Nat} {f : Array Value -> Array Value} {t' : Nat} (I : Inv X pins σ H s) (hH : H l = some (.lst xs))
    (e : s.heap.get? l = some { cls := .type "list", data := .seq its.toArray n }) (hf : f its.toArray = its'.toArray) (hv : Vals ys its') (hz : ys.length <= sizeLine) :
    Inv X pins σ (upd H l (.lst ys)) { s with heap := s.heap.update l (Obj.mapSeq f), toks := t' } := by
  have q := PySem.IsL.update e f;rw [hf] at q;refine I.write (x := l) (e := l) (by rw [hH]; exact trivial) (.inl rfl) (fun b' u hb hu => (Heap.get?_update_other s.heap (Obj.mapSeq f) (Ne.symm hb)).trans hu) ⟨_, q⟩ ?_;exact ⟨hz, its', _, hv, q⟩
theorem Inv.lnew {its : List Value} {t' : Nat} (I : Inv X pins σ H s) (hv : Vals ys its) (hz : ys.length <= sizeLine) :
    Inv X pins σ (upd H s.heap.objs.size (.lst ys)) { s with heap := s.heap.push { cls := .type "list", data := .seq its.toArray }, toks := t' } :=
  I.laid (fun _ _ q => Heap.get?_push_of_some _ q) (Zm _) ⟨hz, its, 0, hv, Heap.get?_push_size _ rfl⟩
theorem Inv.fresh (I : Inv X pins σ H s) : H s.heap.objs.size = none := I.hok.fresh (Zm _)
theorem Inv.lstM (I : Inv X pins σ H s) (hH : H l = some (.lst xs)) : xs.length <= sizeLine /\ ∃ (its : List Value) (n : Nat), Vals xs its /\ xs.length = its.length /\ s.heap.get? l = some { cls := .type "list", data := .seq its.toArray n } := by
  obtain ⟨z, its, n, r, e⟩ := I.hok l _ hH;exact ⟨z, its, n, r, r.length, e⟩
theorem zf2 {n : Nat} (h : n <= sizeLine) : Builtin.List.listTooLong n = false := by
  unfold Builtin.List.listTooLong;exact decide_eq_false (by omega)
end
section
variable {X : Cx}
def zbp : V -> List V -> Hp -> VK -> Prop := fun x vs H Q => ∃ l xs y, x = .ref l /\ vs = [y] /\ H l = some (.lst xs) /\ xs.length < sizeLine /\ Q .non (upd H l (.lst (xs ++ [y])))
theorem up : MtM X "list.append" zbp := by
  intro pins s σ H x vs v us Q I rx rv h;obtain ⟨l, xs, y, rfl, rfl, hH, hz, q⟩ := h;cases rx;obtain ⟨u, rfl, ru⟩ := rv.one;obtain ⟨z, its, n, r, hl, e⟩ := I.lstM hH;refine call_meets F.slot_list_append ⟨_, e, rfl⟩ F.entry_list_append (F.args_list_append_2 _ _) (PySem.list_append l its.toArray n u (by rw [Zr]; omega)) ⟨e, ?_⟩;refine ⟨.non, _, I.lset (its' := its ++ [u]) hH e (by simp) (r.append (.cons ru .nil)) ?_, rfl, q⟩;rw [Zo, Yr];omega
def zck : V -> List V -> Hp -> VK -> Prop := fun x vs H Q => ∃ l b xs zs, x = .ref l /\ vs = [.ref b] /\ H l = some (.lst xs) /\ H b = some (.lst zs) /\ xs.length + zs.length <= sizeLine /\ Q .non (upd H l (.lst (xs ++ zs)))
theorem dq : MtM X "list.extend" zck := by
  intro pins s σ H x vs v us Q I rx rv h;obtain ⟨l, b, xs, zs, rfl, rfl, hH, hB, hz, q⟩ := h;cases rx;obtain ⟨u, rfl, ru⟩ := rv.one;cases ru;obtain ⟨z, its, n, r, hl, e⟩ := I.lstM hH;obtain ⟨z2, its2, n2, r2, hl2, e2⟩ := I.lstM hB;have hsz : its.toArray.size + its2.toArray.size <= sizeLine := by rw [Zr, Zr]; omega
  have hlong : ¬ (!its.toArray.isEmpty && Builtin.List.listTooLong (its.toArray.size + its2.toArray.size)) = true := by
    rw [zf2 hsz, Bool.and_false];exact Bool.false_ne_true
  refine call_meets F.slot_list_extend ⟨_, e, rfl⟩ F.entry_list_extend (F.args_list_extend_2 _ _)
    (AutoSeq1.list_extend_list_list_0 l its.toArray n b its2.toArray n2 hlong (by rw [Zr]; omega) (by omega)) ⟨e, e2, ?_⟩
  refine ⟨.non, _, I.lset (its' := its ++ its2) hH e (by simp) (r.append r2) ?_, rfl, q⟩;rw [Zo];omega
def rCat : R2 := fun x y H Q => ∃ l b xs zs, x = .ref l /\ y = .ref b /\ H l = some (.lst xs) /\ H b = some (.lst zs) /\ xs.length + zs.length <= sizeLine /\ ∀ p, H p = none -> Q (.ref p) (upd H p (.lst (xs ++ zs)))
theorem zar : OpR X (binaryOp .Add) rCat := by
  intro pins s σ H x y v u Q I rx ry h;obtain ⟨l, b, xs, zs, rfl, rfl, hH, hB, hz, q⟩ := h;cases rx;cases ry;obtain ⟨z, its, n, r, hl, e⟩ := I.lstM hH;obtain ⟨z2, its2, n2, r2, hl2, e2⟩ := I.lstM hB;refine PySem.P.add_list e e2 ?_ (by rw [Zr, Zr]; omega);have ea : its.toArray ++ its2.toArray = (its ++ its2).toArray := by simp
  rw [ea];exact ⟨.ref _, _, I.lnew (t' := s.toks) (r.append r2) (by rw [Zo]; omega), rfl, q _ I.fresh⟩
def rRep : R2 := fun x y H Q => ∃ l k xs, x = .ref l /\ y = .int k /\ H l = some (.lst xs) /\ -(2 ^ 63) <= k /\ k < 2 ^ 63 /\ xs.length * k.toNat <= sizeLine /\
  ∀ p, H p = none -> Q (.ref p) (upd H p (.lst (List.replicate k.toNat xs).flatten))
end
section
variable {prog : Program} {w : World} {A : Around} {E : Value -> Shared -> Prop} {s : Shared}
set_option maxRecDepth 100000 in
end
section
variable {X : Cx}
end
end L2
namespace Att
open PySem PySem.W PySem.Calls PyProof.Rows
theorem gv {P : Params} {h : Heap} : ∀ (ns : List Int) (vs : List Value), WellAll P h vs (ns.map WData.int) -> IntsAre vs ns := by
  intro ns
  induction ns with
  | nil =>
    intro vs w;rw [YS] at w;cases w;exact .nil
  | cons n ns ih =>
    intro vs w;rw [ZM] at w
    cases w with
    | cons a b =>
      cases a;exact .cons _ _ (ih _ b)
theorem ze8 {l : OpenLaw} {n : Nat} (hn : l.most = some n) {P : Params} {h : Heap} {args : List WData} {vals : List Value}
    (hpre : l.row.toRowW.claim.pre args = true) (hwl : WellAll P h vals args) :
    ∃ a vs ns, vals = [Value.ref a] /\ args = [WData.list (ns.map WData.int)] /\ h.get? a = some { cls := .type "list", data := .seq vs.toArray } /\ IntsAre vs ns /\ ns.length <= n := by
  have hsh : WShape.hasAll [] args [.list .int] = true := (pre_splitW hpre).1;have hc : l.pre.holds [] { args := args } = true := (pre_splitW hpre).2;obtain ⟨d, r, rfl, h1, h2⟩ := hasAllW_cons hsh;obtain rfl := hasAllW_nil h2;obtain ⟨xs, rfl, h3⟩ := hasW_list h1;obtain ⟨ns, rfl⟩ := items_int h3
  have hlen : ns.length <= n := by
    unfold OpenLaw.pre at hc
    have h4 : (WTm.not (.lt (.lit (.int (n : Int))) (.len (.arg 0)))).holds [] { args := [.list (ns.map .int)] } = true := by
      have h4 := (holds_andW hc).1;rw [hn] at h4;exact h4
    have h5 := condW_of h4 (w_not (w_lt w_lit (w_len_list (w_arg rfl))));rw [Za] at h5;refine Nat.le_of_not_lt fun q => ?_
    have q' : (n : Int) < ((ns.length : Nat) : Int) := by omega
    first
      | (rw [decide_eq_true q'] at h5; exact absurd h5 (by decide))
      | (simp at h5; omega)
  cases hwl with
  | cons w1 w2 =>
    cases w2
    cases w1 with
    | list ho hall => exact ⟨_, _, ns, rfl, rfl, ho, gv ns _ hall, hlen⟩
theorem zeg (l : OpenLaw) (args : List WData) : l.row.toRowW.claim.post args (.bool true) args = true :=
  postW_of (r := l.row.toRowW) (X := (true == true))
    (show WShape.has [] (.bool true) .bool = true by first | rfl | decide | simp [WShape.has, WShape.arms, WShape.armsAll])
    (show (WTm.eq .res (.lit (.bool true))).value [] { args := args, res := some (.bool true), after := args } = some (.bool (true == true)) from w_eq_bool (w_res rfl) w_lit) rfl
theorem zbc {l : OpenLaw} {n : Nat} {q : Program} {loose : List Str} {XP : (Str -> Option Value) -> Heap -> Prop} {YP : World -> Heap -> Prop} {d : DefRec}
    (hn : l.most = some n) (hdf : d.params.defaults = [])
    (call : ∀ (w : World) (s₀ s₁ : Shared) (mg mb : Str -> Option Value) (fa : Addr) (o : Obj) (pm cd doc : Value) (a : Addr) (vs : List Value) (ns : List Int),
      Ground q loose [] XP w s₀ mg mb s₁.heap -> YP w s₁.heap ->
      s₁.heap.get? fa = some o -> o.data = .func (docDef d.name d.params d.body d.scope pm cd doc) -> s₁.heap.CodeRec cd d.name -> mg d.name = some (.ref fa) ->
      s₁.heap.get? a = some { cls := .type "list", data := .seq vs.toArray } -> IntsAre vs ns -> ns.length <= n -> s₁.gens = #[] ->
      codeAny (model l.prog w) callerA (.call (.ref fa) ⟨[.ref a], []⟩) (fun r s' => r = .ok (.ret (.bool true)) /\ OldK s₁.heap s'.heap /\ s'.os = s₁.os /\ AllBare s'.gens) s₁) :
    WalkO q loose XP YP l.row.toRowW d [] (fun f vs => PySem.call f vs) := by
  intro w s₀ s₁ mg mb G Y fa o pm cd doc dV kV ho hd hcd hD hmg hg args vals as hpre hlay hrd hwl hlo;obtain rfl : dV = .none := Dflts.none hD hdf;obtain rfl : kV = .none := Dflts.noKw hD;obtain ⟨a, vs, ns, rfl, rfl, hobj, hints, hlen⟩ := ze8 hn hpre hwl;refine enter_call (codeAny_mono (call w s₀ s₁ mg mb fa o pm cd doc a vs ns G Y ho (fd_plain hd) hcd hmg hobj hints hlen hg) fun r s' hq => ?_);obtain ⟨rfl, h2, h3, h4⟩ := hq;exact ⟨.inl ⟨.bool true, .bool true, [], rfl, fun _ => rfl, .bool true, zeg l _, fun _ => ⟨List.Pairwise.nil, fun _ hm => (nomatch hm)⟩⟩, h2, h3, h4⟩
section
variable {prog : Program} {w : World} {A : Around} {E : Value -> Shared -> Prop} {s : Shared} {K : Frag}
end
end Att
namespace L2
open PySem PySem.Spec PyProof.Rows
theorem de : ∀ {vs : List Value} {ns : List Int}, IntsAre vs ns -> Vals (ns.map V.int) vs
  | _, _, .nil => .nil
  | _, _, .cons n t h => .cons ⟨t, rfl⟩ (de h)
def Only (H : Hp) : Prop := ∀ b, H b = none \/ ∃ o xs, H b = some (.frz o (.lst xs))
theorem zgc {P : Program} {w : World} {K : Fg} {mg mb : Str -> Option Value} {CX : CXT} {k : Nat} {fa a : Addr} {fd : FuncData} {x : Str} {sp : Sp} {s₁ : Shared} {vs : List Value} {ns : List Int}
    (KX : K.In s₁.heap) (hns : s₁.heap.Ns mainGlobals mg) (hb : s₁.heap.Ns builtinsNs mb) (hbb : ∀ x : Str, x ≠ "__name__" -> mb x = bootBuiltins x) (hlim : s₁.heap.NoLimit) (hg : s₁.gens = #[])
    (ha : s₁.heap.get? a = some { cls := .type "list", data := .seq vs.toArray }) (hi : IntsAre vs ns) (hl : ns.length <= sizeLine) (hr : Room k callerA)
    (F : ∀ base : Heap, K.In base -> base.Ns mainGlobals mg -> FnOk P w K mg base CX k fa fd [x] sp) (hbind : ∀ (s : Shared) (u : Value), BindsTo s fd ⟨[u], []⟩ [(x, u)])
    (hsp : ∀ H : Hp, Only H -> SqL K H a (ns.map V.int) -> sp [.ref a] H (fun v _ => v = .bl true) fun _ _ _ => False)
    (hCX : ∀ H e s', CX [] H s₁ (fun _ _ _ => False) e s' -> False) :
    codeAny (model P w) callerA (.call (.ref fa) ⟨[.ref a], []⟩) (fun r s' => r = .ok (.ret (.bool true)) /\ OldK s₁.heap s'.heap /\ s'.os = s₁.os /\ AllBare s'.gens) s₁ := by
  have rv := de hi;have lenV := hi.length
  -- from an abstract heap in which nothing but the script may be tracked
  have core : ∀ H : Hp, Only H -> SqL K H a (ns.map V.int) -> HOk P w H s₁.heap -> (∀ b, H b ≠ none -> b = a) -> (H a ≠ none -> K.lookup a = none) ->
      codeAny (model P w) callerA (.call (.ref fa) ⟨[.ref a], []⟩) (fun r s' => r = .ok (.ret (.bool true)) /\ OldK s₁.heap s'.heap /\ s'.os = s₁.os /\ AllBare s'.gens) s₁ := by
    intro H hO hS hok hA hK;have base_of : ∀ {b : Addr} {o : Obj}, s₁.heap.get? b = some o -> H b = none -> (hidT s₁.heap H).get? b = some o := fun e n => zgi e n
    have noA : ∀ {b : Addr} {o : Obj} {es : Array DictEntry} {ep : Nat}, s₁.heap.get? b = some o -> o.data = .dict es ep -> H b = none := fun {b o es ep} e d => by
      cases q : H b with
      | none => rfl
      | some u =>
        have e' : b = a := hA b (by rw [q]; simp);subst e';rw [ha] at e; cases e;have d' : Data.seq vs.toArray _ = Data.dict es ep := d;cases d'
    have nsK : ∀ {b : Addr} {m : Str -> Option Value}, s₁.heap.Ns b m -> (hidT s₁.heap H).Ns b m := fun {b m} ⟨o, es, ep, e, d, r⟩ => ⟨o, es, ep, base_of e (noA e d), d, r⟩
    have hKb : K.In (hidT s₁.heap H) := fun b o e => base_of (KX b o e) (by
      cases q : H b with
      | none => rfl
      | some u =>
        have e' : b = a := hA b (by rw [q]; simp);subst e'
        rw [hK (by rw [q]; simp)] at e; cases e)
    have hM : Mod K mg (hidT s₁.heap H) := ⟨hKb, nsK hns, ⟨mb, nsK hb, hbb⟩, let ⟨mc, h1, h2⟩ := hlim; ⟨mc, nsK h1, h2⟩⟩;have e0 : Env0 P w K mg (hidT s₁.heap H) callerA [] s₁ H := ⟨rfl, hM, fun b o e => zhg e, Nat.le_of_eq (zd8 _ _), trivial, fun b hb => absurd (show b ∈ ([] : List Addr) from hb) (by simp), hok, .of_eq hg⟩;refine codeAny_mono ((F _ hKb (nsK hns)).run callerA [] s₁ H ⟨[.ref a], []⟩ [.ref a] [.ref a] _ _ hr e0 (hbind s₁ (.ref a)) (.cons rfl .nil) (hsp H hO hS)) fun r s' h => ?_
    cases r with
    | error e => exact (hCX H e s' h).elim
    | ok fl =>
      cases fl with
      | next => exact False.elim h
      | brk => exact False.elim h
      | cont => exact False.elim h
      | ret u =>
        obtain ⟨v, H', os, bare, un, hok', r', q⟩ := h;have q' : v = .bl true := q;subst q';obtain rfl : u = Value.bool true := r';refine ⟨rfl, OldK.of_keep fun b o e => ?_, os, bare⟩
        cases q : H b with
        | none => exact un.keep b o e q (by intro z; exact absurd (show b ∈ ([] : List Addr) from z) (by simp)) (by simp)
        | some u =>
          rcases hO b with z | ⟨ob, xs, z⟩
          . rw [q] at z; cases z
          . have z2 := un.frzs b ob _ z
            obtain ⟨e1, _⟩ := hok b _ z;obtain ⟨e2, _⟩ := hok' b _ z2;rw [e] at e1; cases e1;exact e2
  cases hk : K.lookup a with
  | some o =>
    -- the script is one of the module's own objects
    have e := KX a o hk;rw [ha] at e;cases e;refine core (fun _ => none) (fun _ => .inl rfl) (.inr ⟨_, vs.toArray, _, hk, rfl, rfl, rfl, by rw [Zr, lenV]; exact hl, by simpa using rv⟩) (fun b u z => by have z' : (none : Option HO) = some u := z; cases z') (fun b z => absurd rfl z) fun z => absurd rfl z
  | none =>
    refine core (fun b => if b = a then some (.frz { cls := .type "list", data := .seq vs.toArray } (.lst (ns.map V.int))) else none) (fun b => ?_) (.inl (.inr ⟨{ cls := .type "list", data := .seq vs.toArray }, if_pos rfl⟩)) (fun b u z => ?_) (fun b z => ?_) fun _ => hk
    . by_cases hb : b = a
      . exact .inr ⟨_, _, if_pos hb⟩
      . exact .inl (if_neg hb)
    . by_cases hb : b = a
      . have z' := (if_pos hb).symm.trans z
        cases z';subst hb;exact ⟨ha, by rw [Za]; exact hl, vs, _, rv, ha⟩
      . have z' := (if_neg hb).symm.trans z
        cases z'
    . by_cases hb : b = a
      . exact hb
      . exact absurd (if_neg hb) z
end L2
namespace L2
open PySem PySem.Spec PyProof.Rows
abbrev KOf {K : Fg} {h : Heap} (_ : K.In h) : Fg := K
theorem zhe {l : PySem.W.OpenLaw} {n k : Nat} {q : Program} {loose : List Str} {XP : (Str -> Option Value) -> Heap -> Prop} {YP : World -> Heap -> Prop} {d : DefRec} {K : Params -> Fg} {CX : World -> CXT} {sp : World -> Sp} {x : Str}
    (hn : l.most = some n) (hn2 : n <= sizeLine) (hdf : d.params.defaults = []) (hr : Room k callerA)
    (hY : ∀ (w : World) (h : Heap), YP w h -> (K w.params).In h)
    (F : ∀ (w : World) (mg : Str -> Option Value) (fa : Addr) (h : Heap), (K w.params).In h -> h.Ns mainGlobals mg -> mg d.name = some (.ref fa) ->
      ∃ fd : FuncData, (∀ (s : Shared) (u : Value), BindsTo s fd ⟨[u], []⟩ [(x, u)]) /\
        ∀ base : Heap, (K w.params).In base -> base.Ns mainGlobals mg -> FnOk l.prog w (K w.params) mg base (CX w) k fa fd [x] (sp w))
    (hsp : ∀ (w : World) (H : Hp) (a : Addr) (ns : List Int), ns.length <= n -> Only H -> SqL (K w.params) H a (ns.map V.int) -> sp w [.ref a] H (fun v _ => v = .bl true) fun _ _ _ => False)
    (hCX : ∀ (w : World) (H : Hp) (s : Shared) (e : Value) (s' : Shared), CX w [] H s (fun _ _ _ => False) e s' -> False) :
    PySem.W.WalkO q loose XP YP l.row.toRowW d [] (fun f vs => PySem.call f vs) := by
  refine Att.zbc hn hdf fun w s₀ s₁ mg mb fa o pm cd doc a vs ns G Y ho hd hcd hmg hobj hints hlen hg => ?_
  have KX := hY w _ Y;obtain ⟨fd, hb, hF⟩ := F w mg fa _ KX G.T.g hmg;exact zgc KX G.T.g G.T.b G.T.builtins G.T.nolimit hg hobj hints (Zd hlen hn2) hr hF hb (fun H hO hS => hsp w H a ns hlen hO hS) fun H e s' => hCX w H s₁ e s'
theorem zgl {l : PySem.W.OpenLaw} {n k : Nat} {q : Program} {loose : List Str} {XP : (Str -> Option Value) -> Heap -> Prop} {YP : World -> Heap -> Prop} {d : DefRec} {K : Params -> Fg} {CX : CXT} {sp : Fg -> Sp} {x : Str}
    (hn : l.most = some n) (hn2 : n <= sizeLine) (hdf : d.params.defaults = []) (hr : Room k callerA)
    (hY : ∀ (w : World) (h : Heap), YP w h -> (K w.params).In h)
    (F : ∀ (w : World) (mg : Str -> Option Value) (fa : Addr) (h : Heap), (K w.params).In h -> h.Ns mainGlobals mg -> mg d.name = some (.ref fa) ->
      ∃ fd : FuncData, (∀ (s : Shared) (u : Value), BindsTo s fd ⟨[u], []⟩ [(x, u)]) /\
        ∀ base : Heap, (K w.params).In base -> base.Ns mainGlobals mg -> FnOk l.prog w (K w.params) mg base CX k fa fd [x] (sp (K w.params)))
    (hsp : ∀ (K : Fg) (H : Hp) (a : Addr) (ns : List Int), ns.length <= n -> Only H -> SqL K H a (ns.map V.int) -> sp K [.ref a] H (fun v _ => v = .bl true) fun _ _ _ => False)
    (hCX : ∀ (H : Hp) (s : Shared) (e : Value) (s' : Shared), CX [] H s (fun _ _ _ => False) e s' -> False) :
    PySem.W.WalkO q loose XP YP l.row.toRowW d [] (fun f vs => PySem.call f vs) :=
  zhe (K := K) (CX := fun _ => CX) (sp := fun w => sp (K w.params)) hn hn2 hdf hr hY F (fun w H a ns h1 h2 h3 => hsp (K w.params) H a ns h1 h2 h3) fun _ H s e s' => hCX H s e s'
end L2
namespace L2
open PySem PySem.Spec PyProof.Rows
def ur (s : Stmt) : Arguments := match s with
  | .FunctionDef _ a _ _ _ _ _ _ _ _ => a
  | _ => { posonlyargs := [], args := [], vararg := none, kwonlyargs := [], kw_defaults := [], kwarg := none, defaults := [] }
def yx (s : Stmt) : List Stmt := match s with
  | .FunctionDef _ _ b _ _ _ _ _ _ _ => b
  | _ => []
def zk (s : Stmt) : Scope := match s with
  | .FunctionDef _ _ _ _ _ _ sc _ _ _ => sc
  | _ => { kind := .function, names := [], isGenerator := false, isCoroutine := false }
abbrev CX0 : CXT := fun _ _ _ _ _ _ => False
abbrev E0 : XK := fun _ _ _ => False
theorem pass0 {X : Cx} : jg CX0 X E0 := fun _ _ _ _ _ _ _ h => h.elim
structure Fun (K : Fg) (x qual : Str) (st : Stmt) (f : Addr) (fd : FuncData) : Prop where
  ex : ∃ (oc : Value) (od : Option Addr) (kV doc pm : Value) (an : Option Addr) (cdv ct : Value) (osl : Array (Option Value)),
    fd = PySem.W.fnOf x qual (ur st) (yx st) (zk st) .none kV doc pm an cdv ct /\ K.lookup f = some ⟨oc, od, .func fd, osl⟩ /\ PySem.W.codeIn K cdv qual = true
  kp : PySem.W.keepIn K (.ref f) = true
section
variable {P : Program} {w : World} {K : Fg} {mg : Str -> Option Value} {base : Heap}
theorem Fun.ok {x qual : Str} {st : Stmt} {f : Addr} {fd : FuncData} {N ps : List Str} {k : Nat} {sp : Sp} (F : Fun K x qual st f fd) (S : zp N ps (zk st)) (len : ∀ vs H Q E, sp vs H Q E -> vs.length = ps.length)
    (hbody : ∀ (cdv : Value) (A : Around) (outer : List Env) (s : Shared) (H : Hp) (vs : List V) (Q : VK) (E : XK), Room k (A.deeper (envOfC qual (zk st) s.heap.objs.size f cdv)) -> sp vs H Q E ->
      ∃ t, PSs (cxOf CX0 P w K mg base N qual (zk st) f cdv A outer s H E).nox (yx st) t /\ t { nx := fun _ H' => Q .non H', rt := Q } (zt N vs) H) : FnOk P w K mg base CX0 (k + 1) f fd ps sp := by
  obtain ⟨oc, od, kV, doc, pm, an, cdv, ct, osl, rfl, lk, hcd⟩ := F.ex;refine fn_of lk hcd S len fun A outer s H vs Q E hr hsp => ?_
  obtain ⟨t, h, q⟩ := hbody cdv A outer s H vs Q E hr hsp;exact ⟨t, h.nox, q⟩
theorem Fun.binds {x qual : Str} {st : Stmt} {f : Addr} {fd : FuncData} {ps : List Str} (F : Fun K x qual st f fd)
    (h : ∀ (kV doc pm : Value) (an : Option Addr) (cdv ct : Value) (us : List Value), us.length = ps.length -> bindArgs (PySem.W.fnOf x qual (ur st) (yx st) (zk st) .none kV doc pm an cdv ct) ⟨us, []⟩ = pure (ps.zip us)) : Binds K fd ps [] := by
  obtain ⟨oc, od, kV, doc, pm, an, cdv, ct, osl, rfl, lk, hcd⟩ := F.ex;exact .all (h kV doc pm an cdv ct)
theorem ze2 {x qual : Str} {st : Stmt} {f : Addr} {oc : Value} {od an : Option Addr} {osl : Array (Option Value)} {kV doc pm cdv ct : Value} (l : K.lookup f = some ⟨oc, od, .func (PySem.W.fnOf x qual (ur st) (yx st) (zk st) .none kV doc pm an cdv ct), osl⟩)
    (c : PySem.W.codeIn K cdv qual = true) (k : PySem.W.keepIn K (.ref f) = true) : Fun K x qual st f (PySem.W.fnOf x qual (ur st) (yx st) (zk st) .none kV doc pm an cdv ct) := ⟨⟨oc, od, kV, doc, pm, an, cdv, ct, osl, rfl, l, c⟩, k⟩
end
theorem hu_of {A : Around} {k : Nat} (hr : Room k A) : A.units + 1 < cLine := ZT (Nat.add_le_add_left (by decide : 1 <= 64) _) hr.units
section
variable {X : Cx}
theorem pv (i : Nat) {x : Str} {pos : Pos} (hN : X.N[i]? = some x := by rfl) (hv : Vis X.env.scope x := by first | exact Or.inl rfl | exact Or.inr (Or.inl rfl) | exact Or.inr (Or.inr rfl)) (hd : (x == ("__debug__" : Str)) = false := by decide)
    (hcd : (x == ("__classdict__" : Str)) = false := by decide) : PE X (.Name x pos) (tVar i) := pe_var hN hv hd hcd
end
theorem iteF {A B : Prop} (h : B) : if false = true then A else B := by
  rw [if_neg Bool.false_ne_true];exact h
theorem iteT {A B : Prop} (h : A) : if true = true then A else B := by
  rw [if_pos rfl];exact h
theorem ite2 {c A B : Prop} [Decidable c] (h1 : c -> A) (h2 : ¬ c -> B) : if c then A else B := by
  by_cases h : c
  . rw [if_pos h]
    exact h1 h
  . rw [if_neg h]
    exact h2 h
theorem zdj {c A B : Prop} [Decidable c] (hc : c) (h : B) : if (!decide c) = true then A else B := by
  rw [decide_eq_true hc];exact iteF h
def Same (H H' : Hp) : Prop := ∀ b o, H b = some o -> H' b = some o
theorem Same.refl (H : Hp) : Same H H := fun _ _ h => h
theorem Same.trans {H H1 H2 : Hp} (a : Same H H1) (b : Same H1 H2) : Same H H2 := fun c o h => b c o (a c o h)
theorem Same.free {H H' : Hp} (e : Same H H') {l : Addr} (h : H' l = Option.none) : H l = Option.none := by
  cases q : H l with
  | none => rfl
  | some o =>
    rw [e l o q] at h;cases h
theorem Same.seq {K : Fg} {H H' : Hp} {a : Addr} {xs : List V} (e : Same H H') (h : SqL K H a xs) : SqL K H' a xs := by
  rcases h with (h | ⟨o, h⟩) | h
  . exact .inl (.inl (e _ _ h))
  . exact .inl (.inr ⟨o, e _ _ h⟩)
  . exact .inr h
end L2
namespace L2
open PySem PySem.Spec PyProof.Rows
section
variable {κ : Type} [DecidableEq κ]
def valV (kvs : List (κ × V)) (k : κ) : Option V := (kvs.find? fun kv => decide (kv.1 = k)).map (·.2)
def putK (kvs : List (κ × V)) (k : κ) (v : V) : List (κ × V) :=
  if (kvs.any fun kv => decide (kv.1 = k)) = true then kvs.map (fun kv => if kv.1 = k then (kv.1, v) else kv) else kvs ++ [(k, v)]
theorem oh {p : κ × V} {r : List (κ × V)} {k : κ} (e : p.1 = k) : valV (p :: r) k = some p.2 := by simp [valV, Yl, e]
theorem uk {p : κ × V} {r : List (κ × V)} {k : κ} (e : ¬ p.1 = k) : valV (p :: r) k = valV r k := by simp [valV, Yl, e]
theorem il (k : κ) : ∀ kvs : List (κ × V), (kvs.any fun kv => decide (kv.1 = k)) = (valV kvs k).isSome
  | [] => rfl
  | p :: r => by
    rw [List.any_cons]
    by_cases e : p.1 = k
    . simp only [oh e, decide_eq_true e, Bool.true_or, Option.isSome_some]
    . rw [uk e, decide_eq_false e, Bool.false_or]; exact il k r
theorem j8 (kvs : List (κ × V)) (k : κ) (v : V) : (putK kvs k v).length <= kvs.length + 1 := by
  unfold putK
  split
  . rw [Za]; omega
  . rw [Zo, ZL, Ym]; omega
theorem ac {kvs : List (κ × V)} {k : κ} (v : V) (h : valV kvs k = none) : putK kvs k v = kvs ++ [(k, v)] := by
  unfold putK;rw [il, h];exact if_neg (by decide)
theorem RelO.isSome_eq {o : Option V} {u : Option Value} (r : RelO o u) : o.isSome = u.isSome := by
  cases o with
  | none => cases u with
    | none => rfl
    | some _ => exact (show False from r).elim
  | some _ => cases u with
    | none => exact (show False from r).elim
    | some _ => rfl
theorem KV.val {kvs : List (κ × V)} {vs : List (κ × Value)} (r : KV kvs vs) (k : κ) : RelO (valV kvs k) (valueAt vs k) := by
  unfold KV at r
  induction r with
  | nil => exact True.intro
  | @cons p q ps qs h t ih =>
    obtain ⟨h1, h2⟩ := h
    by_cases e : p.1 = k
    . have e' : q.1 = k := h1.symm.trans e
      have b : valueAt (q :: qs) k = some q.2 := by simp [valueAt, Yl, e']
      rw [oh e, b]; exact h2
    . have e' : ¬ q.1 = k := fun z => e (h1.trans z)
      have b : valueAt (q :: qs) k = valueAt qs k := by simp [valueAt, Yl, e']
      rw [uk e, b]; exact ih
theorem KV.any {kvs : List (κ × V)} {vs : List (κ × Value)} (r : KV kvs vs) (k : κ) : (kvs.any fun kv => decide (kv.1 = k)) = vs.any fun kv => decide (kv.1 = k) := by
  unfold KV at r
  induction r with
  | nil => rfl
  | cons h t ih => rw [List.any_cons, List.any_cons, ih, h.1]
theorem KV.repl {kvs : List (κ × V)} {vs : List (κ × Value)} (r : KV kvs vs) (k : κ) {y : V} {u : Value} (ry : RelV y u) :
    KV (kvs.map fun kv => if kv.1 = k then (kv.1, y) else kv) (vs.map fun kv => if kv.1 = k then (kv.1, u) else kv) := by
  unfold KV at r ⊢
  induction r with
  | nil => exact .nil
  | @cons p q ps qs h t ih =>
    rw [ZM, ZM];refine .cons ?_ ih;obtain ⟨h1, h2⟩ := h
    by_cases e : p.1 = k
    . rw [if_pos e, if_pos (h1.symm.trans e)]; exact ⟨h1, ry⟩
    . rw [if_neg e, if_neg (fun z => e (h1.trans z))]; exact ⟨h1, h2⟩
theorem KV.put {kvs : List (κ × V)} {vs : List (κ × Value)} (r : KV kvs vs) (k : κ) {y : V} {u : Value} (ry : RelV y u) : KV (putK kvs k y) (stored vs k u) := by
  unfold putK stored;rw [r.any k]
  by_cases e : (vs.any fun kv => decide (kv.1 = k)) = true
  . rw [if_pos e, if_pos e]; exact r.repl k ry
  . rw [if_neg e, if_neg e]; exact Paired.snoc r ⟨rfl, ry⟩
theorem KV.length {kvs : List (κ × V)} {vs : List (κ × Value)} (r : KV kvs vs) : kvs.length = vs.length := Paired.length r
end
theorem zcr {P : Program} {w : World} {k : Key} {u : Value} (r : RelV (kV k) u) : (xw P w).is k u = true := by
  cases k with
  | inl i => obtain ⟨t, e⟩ := (show ∃ t, u = Value.int i t from r); subst e; exact za4 P w i t
  | inr x => obtain ⟨t, e⟩ := (show ∃ t, u = Value.str x t from r); subst e; exact zbf P w x t
theorem dw {P : Program} {w : World} : ∀ {ks : List Key} {us : List Value}, Vals (ks.map kV) us -> ItemsAre (xw P w) ks us
  | [], _, r => by rw [YS] at r; cases r; exact .nil
  | k :: ks, _, r => by
    rw [ZM] at r
    cases r with
    | cons h t => exact .cons (zcr h) (dw t)
abbrev KT (H : Hp) : List (List Key × V) -> List (List Key × Addr × Value) -> Prop := Paired fun p q => p.1 = q.1 /\ H q.2.1 = some (.tup (p.1.map kV)) /\ RelV p.2 q.2.2
theorem KT.val {H : Hp} {kvs : List (List Key × V)} {xs : List (List Key × Addr × Value)} (r : KT H kvs xs) (k : List Key) : RelO (valV kvs k) ((atKey xs k).map (·.2)) := by
  induction r with
  | nil => exact True.intro
  | @cons p q ps qs h t ih =>
    obtain ⟨h1, _, h2⟩ := h
    by_cases e : p.1 = k
    . have e' : q.1 = k := h1.symm.trans e
      have b : atKey (q :: qs) k = some q.2 := by simp [atKey, Yl, e']
      rw [oh e, b]; exact h2
    . have e' : ¬ q.1 = k := fun z => e (h1.trans z)
      have b : atKey (q :: qs) k = atKey qs k := by simp [atKey, Yl, e']
      rw [uk e, b]; exact ih
theorem KT.repl {H : Hp} {kvs : List (List Key × V)} {xs : List (List Key × Addr × Value)} (r : KT H kvs xs) (k : List Key) {y : V} {u : Value} (ry : RelV y u) :
    KT H (kvs.map fun kv => if kv.1 = k then (kv.1, y) else kv) (xs.map (putAt k u)) := by
  induction r with
  | nil => exact .nil
  | @cons p q ps qs h t ih =>
    rw [ZM, ZM];refine .cons ?_ ih;obtain ⟨h1, h2, h3⟩ := h;unfold putAt
    by_cases e : p.1 = k
    . rw [if_pos e, if_pos (h1.symm.trans e)]; exact ⟨h1, h2, ry⟩
    . rw [if_neg e, if_neg (fun z => e (h1.trans z))]; exact ⟨h1, h2, h3⟩
theorem KT.put {H : Hp} {kvs : List (List Key × V)} {xs : List (List Key × Addr × Value)} (r : KT H kvs xs) (k : List Key) {b : Addr} {y : V} {u : Value} (hb : H b = some (.tup (k.map kV))) (ry : RelV y u) :
    KT H (putK kvs k y) (storedH xs k b u) := by
  have e : (kvs.any fun kv => decide (kv.1 = k)) = (atKey xs k).isSome := by
    rw [il, (r.val k).isSome_eq, Option.isSome_map]
  unfold putK storedH;rw [e]
  by_cases q : (atKey xs k).isSome = true
  . rw [if_pos q, if_pos q]; exact r.repl k ry
  . rw [if_neg q, if_neg q]; exact Paired.snoc r ⟨rfl, hb, ry⟩
theorem KT.keeps {H H' : Hp} {kvs : List (List Key × V)} {xs : List (List Key × Addr × Value)} (r : KT H kvs xs) (ht : ∀ b ys, H b = some (.tup ys) -> H' b = some (.tup ys)) : KT H' kvs xs :=
  Paired.mapP r fun _ _ z => ⟨z.1, ht _ _ z.2.1, z.2.2⟩
section
variable {P : Program} {w : World} {H : Hp} {h : Heap} {a : Addr}
theorem rd_of {u : HO} (ok : HOk P w H h) (e : Rd H a u) : ObjOk P w H h a u := e.ok ok
theorem zc8 {kvs : List (Key × V)} (ok : HOk P w H h) (e : Rd H a (.dK kvs)) : kvs.length <= sizeLine /\ (a == sysModules) = false /\ ∃ vs, KV kvs vs /\ h.DictOf (xw P w) a vs :=
  show ObjOk P w H h a (.dK kvs) from rd_of ok e
theorem dk_of {kvs : List (Key × V)} (ok : HOk P w H h) (e : H a = some (.dK kvs)) : kvs.length <= sizeLine /\ (a == sysModules) = false /\ ∃ vs, KV kvs vs /\ h.DictOf (xw P w) a vs := zc8 ok (.inl e)
theorem am {ks : List Key} (ok : HOk P w H h) (e : H a = some (.tup (ks.map kV))) : (tupleKind (xw P w)).is h ks a := by
  obtain ⟨_, its, r, o, h1, h2, n, h3⟩ := (show ObjOk P w H h a (.tup (ks.map kV)) from ok a _ e);exact ⟨o, its.toArray, n, h1, h2, h3.1, by simpa using dw r⟩
theorem zcw {kvs : List (List Key × V)} (ok : HOk P w H h) (e : Rd H a (.dT kvs)) : kvs.length <= sizeLine /\ (a == sysModules) = false /\
    ∃ xs, KT H kvs xs /\ h.DictOfH (tupleKind (xw P w)) a xs := by
  obtain ⟨z, y, xs, r, o, es, ep, h1, h2, h3, h4, h5⟩ := (show ObjOk P w H h a (.dT kvs) from rd_of ok e);refine ⟨z, y, xs, r, o, es, ep, h1, h2, h3, h4, fun x hx => ?_, h5⟩
  have all : ∀ {l : List (List Key × V)} {m : List (List Key × Addr × Value)}, KT H l m -> ∀ x ∈ m, (tupleKind (xw P w)).is h x.1 x.2.1 := by
    intro l m q
    induction q with
    | nil => intro x hx; exact nomatch hx
    | @cons p q ps qs hq t ih =>
      intro x hx
      rcases ZK.mp hx with e | hx
      . subst e
        exact am ok (by rw [<- hq.1]; exact hq.2.1)
      . exact ih x hx
  exact all r x hx
theorem zdq {kvs : List (List Key × V)} (ok : HOk P w H h) (e : H a = some (.dT kvs)) : kvs.length <= sizeLine /\ (a == sysModules) = false /\
    ∃ xs, KT H kvs xs /\ h.DictOfH (tupleKind (xw P w)) a xs := zcw ok (.inl e)
end
def DGet (H : Hp) (a : Addr) (y : V) (r : Option V) : Prop :=
  (∃ kvs k, Rd H a (.dK kvs) /\ y = kV k /\ r = valV kvs k) \/ ∃ kvs k b, Rd H a (.dT kvs) /\ y = .ref b /\ H b = some (.tup (k.map kV)) /\ r = valV kvs k
def DPut (H : Hp) (a : Addr) (y v : V) (H' : Hp) : Prop :=
  (∃ kvs k, H a = some (.dK kvs) /\ y = kV k /\ kvs.length < sizeLine /\ H' = upd H a (.dK (putK kvs k v))) \/
  ∃ kvs k b, H a = some (.dT kvs) /\ y = .ref b /\ H b = some (.tup (k.map kV)) /\ kvs.length < sizeLine /\ H' = upd H a (.dT (putK kvs k v))
theorem DGet.t {H : Hp} {a b : Addr} {kvs : List (List Key × V)} {k : List Key} (e : H a = some (.dT kvs)) (eb : H b = some (.tup (k.map kV))) : DGet H a (.ref b) (valV kvs k) := .inr ⟨kvs, k, b, .inl e, rfl, eb, rfl⟩
theorem DPut.t {H : Hp} {a b : Addr} {kvs : List (List Key × V)} {k : List Key} {v : V} (e : H a = some (.dT kvs)) (eb : H b = some (.tup (k.map kV))) (hl : kvs.length < sizeLine) :
    DPut H a (.ref b) v (upd H a (.dT (putK kvs k v))) := .inr ⟨kvs, k, b, e, rfl, eb, hl, rfl⟩
section
variable {X : Cx} {pins : List (Addr × Obj)} {σ : St} {H : Hp} {s : Shared} {a : Addr} {y v : V} {u r : Value} {o : Option V} {A : Around} {E : Value -> Shared -> Prop}
theorem Inv.big (I : Inv X pins σ H s) : sysModules < s.heap.objs.size := by
  have h : mainGlobals < s.heap.objs.size := (I.mod.glob.keeps I.bk).lt;exact Nat.lt_trans (by decide) h
theorem zem {Q : Value -> Shared -> Prop} (hu : A.units + 1 < cLine) (I : Inv X pins σ H s) (g : DGet H a y (some v)) (ry : RelV y u) (h : ∀ w' s', Inv X pins σ H s' -> RelV v w' -> Q w' s') :
    wpAny (model X.prog X.w) A (getItem (.ref a) u) Q E s := by
  rcases g with ⟨kvs, k, e, ey, l⟩ | ⟨kvs, k, b, e, ey, eb, l⟩
  . subst ey
    obtain ⟨z, hd, vs, rel, dd⟩ := zc8 I.hok e;obtain ⟨w', hw, rw'⟩ := RelO.some_of (v := v) (o := valueAt vs k) (by rw [l]; exact rel.val k);exact wpAny_getItem_of (zcr ry) dd.mapOf hw (h w' _ (I.tok _) rw')
  . subst ey
    cases (show u = Value.ref b from ry);obtain ⟨z, hd, xs, rel, dd⟩ := zcw I.hok e;obtain ⟨w', hw, rw'⟩ := RelO.some_of (v := v) (o := (atKey xs k).map (·.2)) (by rw [l]; exact rel.val k);obtain ⟨p, hp, hp2⟩ := Option.map_eq_some_iff.mp hw;refine wpAny_getItem_heap (tupleKind_room_in1 hu) (am I.hok eb) dd hp ?_;rw [hp2];exact h w' _ (I.tok _) rw'
theorem e7 {h' : Heap} {t' : Nat} {ob : HO} (I : Inv X pins σ H s) (mu : Mut (H a)) (hs : Heap.SameBut a s.heap h') (he : ∃ q, h'.get? a = some q) (new : ObjOk X.prog X.w (upd H a ob) h' a ob) :
    Inv X pins σ (upd H a ob) { s with heap := h', toks := t' } :=
  I.write (x := a) (e := a) mu (.inl rfl) (fun b q hb z => (hs.2 b hb).trans z) he new
theorem dk_new {P : Program} {w : World} {H' : Hp} {h' : Heap} {kvs : List (Key × V)} {vs : List (Key × Value)} (z : kvs.length <= sizeLine) (hd : (a == sysModules) = false) (rel : KV kvs vs) (dd : h'.DictOf (xw P w) a vs) :
    ObjOk P w H' h' a (.dK kvs) := ⟨z, hd, vs, rel, dd⟩
theorem zfs {H' : Hp} {Q : Unit -> Shared -> Prop} (hu : A.units + 1 < cLine) (I : Inv X pins σ H s) (g : DPut H a y v H') (ry : RelV y u) (rv : RelV v r) (h : ∀ s', Inv X pins σ H' s' -> Q () s') :
    wpAny (model X.prog X.w) A (setItem (.ref a) u r) Q E s := by
  rcases g with ⟨kvs, k, e, ey, l, eH⟩ | ⟨kvs, k, b, e, ey, eb, l, eH⟩
  . subst ey eH
    obtain ⟨z, hd, vs, rel, dd⟩ := dk_of I.hok e;have hz : vs.length <= sizeLine := by rw [<- rel.length]; exact z
    have hl : (putK kvs k v).length <= sizeLine := by have := j8 kvs k v; omega
    refine wpAny_setItem_pairs (hsz := hz) (zcr ry) dd fun h' dd' hs => h _ ?_
    have he : ∃ q, h'.get? a = some q := let ⟨q, _, _, hq, _⟩ := dd'; ⟨q, hq⟩;exact e7 I (by rw [e]; exact True.intro) hs he (dk_new hl hd (rel.put k rv) dd')
  . subst ey eH
    cases (show u = Value.ref b from ry);obtain ⟨z, hd, xs, rel, dd⟩ := zdq I.hok e;have hz : xs.length <= sizeLine := by rw [<- Paired.length rel]; exact z
    have hl : (putK kvs k v).length <= sizeLine := by have := j8 kvs k v; omega
    refine wpAny_setItem_heap (hsz := hz) (tupleKind_room_in1 hu) (am I.hok eb) dd fun h' dd' hs => h _ ?_
    obtain ⟨q, es, ep, hq, h2, h3, h4, _, h5⟩ := dd';refine e7 I (by rw [e]; exact True.intro) hs ⟨q, hq⟩ ⟨hl, hd, _, (rel.put k eb rv).keeps fun c ys ec => ?_, q, es, ep, hq, h2, h3, h4, h5⟩;rw [zr (ne_of ec e (fun z => nomatch z))];exact ec
end
section
variable {X : Cx} {pins : List (Addr × Obj)} {σ : St} {H : Hp} {s : Shared} {a : Addr} {kvs : List (Key × V)} {k : Key} {u : Value} {A : Around} {E : Value -> Shared -> Prop}
end
def NoSl (i : Expr) : Prop := ∀ ov iv, subscripted i false ov iv = operate [ov, iv] (getItem ov iv)
theorem zht {prog : Program} {w : World} {A : Around} {E : Value -> Shared -> Prop} {s : Shared} {env : Env} {value slice : Expr} {pos : Pos} {T id : String} {Q : Value -> Shared -> Prop}
    (hl : typeLookup (.type T) "__getitem__" = pure (some (.builtin id))) (hs : NoSl slice)
    (h : wpAny (model prog w) A (eval value env) (fun o s₁ => wpAny (model prog w) A (eval slice env) (fun i s₂ => s₂.TypeIs o T /\ wpAny (model prog w) A (getItem o i) Q E s₂) E s₁) E s) :
    wpAny (model prog w) A (eval (.Subscript value slice pos) env) Q E s := by
  refine Subscript_ (wpAny_mono h (fun o s₁ h₁ => wpAny_mono h₁ (fun i s₂ h₂ => ?_) fun _ _ x => x) fun _ _ x => x);obtain ⟨hT, h₂⟩ := h₂;unfold subscriptTail;refine wpAny_bind ?_;rw [getitemInPython_of_ne hT.not_modules];refine wpAny_bind (wpAny_specialOf hT hl ?_)
  have fin : wpAny (model prog w) A (subscripted slice false o i) (fun r s₃ => wpAny (model prog w) A (letTemporaryGo value o r >>= fun _ => pure r) Q E s₃) E s₂ := by
    rw [hs o i];exact wpAny_operating (wpAny_mono h₂ (fun r s₃ h₃ => wpAny_bind (wpAny_letTemporaryGo (wpAny_pure h₃))) fun _ _ x => x)
  first
    | exact wpAny_pure (wpAny_bind fin)
    | exact wpAny_bind (wpAny_pure (wpAny_bind fin))
    | exact wpAny_bind fin
theorem za2 {X : Cx} {pins : List (Addr × Obj)} {σ : St} {H : Hp} {s : Shared} {a : Addr} {y : V} {o : Option V} (I : Inv X pins σ H s) (g : DGet H a y o) : s.TypeIs (.ref a) "dict" := by
  rcases g with ⟨kvs, k, e, _, _⟩ | ⟨kvs, k, b, e, _, _, _⟩
  . obtain ⟨_, _, vs, _, dd⟩ := zc8 I.hok e
    exact dd.typeIs
  . obtain ⟨_, _, xs, _, dd⟩ := zcw I.hok e
    exact dd.typeIs
def tDGet (td ty : TE) : TE := fun σ H Q => td σ H fun x H1 => ty σ H1 fun y H2 => ∃ a v, x = .ref a /\ DGet H2 a y (some v) /\ Q v H2
section
variable {X : Cx} {o i e value : Expr} {pos pos' tpos : Pos} {td ty tv : TE}
theorem e5 (hu : X.A.units + 1 < cLine) (ho : PE X o td) (hi : PE X i ty) (hs : NoSl i) : PE X (.Subscript o i pos) (tDGet td ty) := by
  intro pins s σ H Q I h;refine zht PySem.F.slot_dict_getitem.lookup hs (thn (ho pins s σ H _ I h) fun u s1 ⟨x, H1, I1, rx, q1⟩ => thn (hi pins s1 σ H1 _ I1 q1) fun iv s2 ⟨y, H2, I2, ry, a, v, ex, g, q2⟩ => ?_);subst ex;obtain rfl : u = Value.ref a := rx;exact ⟨za2 I2 g, zem hu I2 g ry fun w' s3 I3 rw' => ⟨v, H2, I3, rw', q2⟩⟩
end
theorem zf0 {P : Program} {w : World} {H : Hp} (h : Heap) (hb : sysModules < h.objs.size) : ObjOk P w H (h.push { cls := .type "dict", data := .dict #[] }) h.objs.size (.dT []) :=
  ⟨ZE _, beq_eq_false_iff_ne.mpr (Ne.symm (Zs hb)), [], .nil, _, #[], 0, Heap.get?_push_size _ rfl, ⟨rfl, rfl, rfl⟩, rfl, rfl, YC⟩
def tDNewK : TE := fun _ H Q => ∀ p, H p = none -> Q (.ref p) (upd H p (.dK []))
def zfa : TE := fun _ H Q => ∀ p, H p = none -> Q (.ref p) (upd H p (.dT []))
section
variable {X : Cx} {pos : Pos}
theorem zah : PE X (.Dict [] [] pos) zfa := fun pins s σ H Q I h =>
  wpAny_Dict_empty ⟨.ref s.heap.objs.size, _, I.laid (a := s.heap.objs.size) (o := .dT []) (t' := s.toks) (fun _ _ q => Heap.get?_push_of_some _ q) (Zm _) (zf0 s.heap I.big), rfl, h _ (I.hok.fresh (Zm _))⟩
end
section
variable {X : Cx} {pins : List (Addr × Obj)} {σ : St} {H : Hp} {s : Shared} {a : Addr} {y d : V} {u r : Value} {o : Option V} {A : Around} {E : Value -> Shared -> Prop}
end
section
variable {X : Cx} {o e f : Expr} {apos cpos : Pos} {td ty tx : TE}
end
section
variable {X : Cx} {pins : List (Addr × Obj)} {σ : St} {H : Hp} {s : Shared} {a : Addr} {kvs : List (Key × V)} {A : Around} {E : Value -> Shared -> Prop}
end
section
variable {X : Cx} {pins : List (Addr × Obj)} {σ : St} {H : Hp} {s : Shared} {a : Addr} {y : V} {u : Value} {A : Around} {E : Value -> Shared -> Prop}
end
end L2
namespace L2
open PySem PySem.Spec PyProof.Rows
section
variable {X : Cx}
end
section
variable {κ : Type} [DecidableEq κ]
end
end L2
namespace L2
open PySem PySem.Spec PyProof.Rows
def iz (ns : List (Str × NameKind)) (y n : Str) : Bool := match ns.lookup y with
  | some .free => y == n
  | some .local => false
  | some .cell => false
  | _ => true
def wx (ns : List (Str × NameKind)) : List Str -> List Str -> Bool
  | [], [] => true
  | y :: ys, n :: ms => iz ns y n && wx ns ys ms
  | _, _ => false
def rm (ns : List (Str × NameKind)) (env : Env) : Bool := ns.all fun y => !(y.2 == .free) || (env.kindOf y.1 == some .cell || env.kindOf y.1 == some .free)
def qu (ns : List (Str × NameKind)) : Bool := ns.all fun y => !(y.2 == .cell) && (!(y.2 == .local) || ns.lookup y.1 == some .local)
theorem gx {ns : List (Str × NameKind)} : ∀ {N2 N : List Str} {i : Nat} {y : Str}, wx ns N2 N = true -> N2[i]? = some y -> iz ns y y = true /\ (ns.lookup y = some .free -> N[i]? = some y)
  | [], [], _, _, _, e => by simp at e
  | y' :: ys, n :: ms, 0, y, h, e => by
    simp at e; subst e;unfold wx at h;rw [Bool.and_eq_true] at h;refine ⟨?_, fun hf => ?_⟩
    . have h1 := h.1
      unfold iz at h1 ⊢
      split at h1 <;> first | rfl | (exact absurd h1 Bool.false_ne_true) | (exact beq_self_eq_true _)
    . have h1 := h.1
      unfold iz at h1;rw [hf] at h1;have e : y' = n := eq_of_beq h1;simp [e]
  | y' :: ys, n :: ms, i + 1, y, h, e => by
    unfold wx at h;rw [Bool.and_eq_true] at h;obtain ⟨h1, h2⟩ := gx (i := i) (y := y) h.2 (by simpa using e);exact ⟨h1, fun hf => by simpa using h2 hf⟩
  | [], _ :: _, _, _, h, _ => by cases h
  | _ :: _, [], _, _, h, _ => by cases h
theorem ph {ns : List (Str × NameKind)} {env : Env} (h : rm ns env = true) {y : Str × NameKind} (hy : y ∈ ns) (hf : y.2 = .free) : env.kindOf y.1 = some .cell \/ env.kindOf y.1 = some .free := by
  have q := ZP.mp h y hy;rw [hf] at q
  simpa using q
theorem ky {ns : List (Str × NameKind)} (h : qu ns = true) : ∀ y ∈ ns, y.2 ≠ .cell := fun y hy e => by
  have q := ZP.mp h y hy;rw [e] at q;simp at q
theorem mn {ns : List (Str × NameKind)} (h : qu ns = true) : ∀ y ∈ ns, y.2 = .local -> ns.lookup y.1 = some .local := fun y hy e => by
  have q := ZP.mp h y hy;rw [e] at q
  simpa using q
theorem sf {env : Env} {x : Str} : ∀ {ns : List (Str × NameKind)}, (ns.map fun (n, k) => if (k == NameKind.free && env.scope.kind == .function && env.kindOf n == some .cell) then (n, NameKind.cell) else (n, k)).lookup x =
    (ns.lookup x).map fun k => if (k == NameKind.free && env.scope.kind == .function && env.kindOf x == some .cell) then NameKind.cell else k
  | [] => rfl
  | (n, k) :: r => by
    have ih := @sf env x r
    show List.lookup x ((if (k == NameKind.free && env.scope.kind == .function && env.kindOf n == some .cell) = true then (n, NameKind.cell) else (n, k)) :: _) = _
    cases hx : x == n with
    | true =>
      have e : x = n := eq_of_beq hx;subst e;simp only [ZF, beq_self_eq_true]
      by_cases hc : (k == NameKind.free && env.scope.kind == .function && env.kindOf x == some .cell) = true
      . rw [if_pos hc]; simp only [ZF, beq_self_eq_true, YI]; rw [if_pos hc]
      . rw [if_neg hc]; simp only [ZF, beq_self_eq_true, YI]; rw [if_neg hc]
    | false =>
      simp only [ZF, hx]
      by_cases hc : (k == NameKind.free && env.scope.kind == .function && env.kindOf n == some .cell) = true
      . rw [if_pos hc]; simp only [ZF, hx]; exact ih
      . rw [if_neg hc]; simp only [ZF, hx]; exact ih
theorem lq {scope : Scope} {env : Env} (h : ∀ y ∈ scope.names, y.2 = .free -> ∃ c, env.cells.lookup y.1 = some c) :
    ∃ cl, closureFor scope env = pure cl /\ (∀ x c, cl.lookup x = some c -> env.cells.lookup x = some c) /\ (∀ y ∈ scope.names, y.2 = .free -> ∃ c, cl.lookup y.1 = some c) := by
  have all : ∀ (ns : List (Str × NameKind)) (cs : List (Str × Addr)), (∀ y ∈ ns, y.2 = .free -> ∃ c, env.cells.lookup y.1 = some c) -> (∀ x c, cs.lookup x = some c -> env.cells.lookup x = some c) ->
      ∃ cl, (forIn ns cs fun x r => (if (x.2 == NameKind.free) = true then do let a <- cellOf env x.1; pure (ForInStep.yield ((x.1, a) :: r)) else pure (ForInStep.yield r) : Sem (ForInStep (List (Str × Addr))))) = pure cl /\
        (∀ x c, cl.lookup x = some c -> env.cells.lookup x = some c) /\ (∀ x, (cs.lookup x).isSome = true -> (cl.lookup x).isSome = true) /\ (∀ y ∈ ns, y.2 = .free -> ∃ c, cl.lookup y.1 = some c) := by
    intro ns
    induction ns with
    | nil => intro cs _ hc; exact ⟨cs, rfl, hc, fun _ z => z, fun _ z => nomatch z⟩
    | cons y r ih =>
      intro cs hh hc;have hr : ∀ z ∈ r, z.2 = .free -> ∃ c, env.cells.lookup z.1 = some c := fun z hz => hh z (Zv _ hz)
      by_cases hf : y.2 = .free
      . obtain ⟨c, ec⟩ := hh y ZA hf
        have hc' : ∀ x d, ((y.1, c) :: cs).lookup x = some d -> env.cells.lookup x = some d := fun x d e => by
          rw [ZF] at e
          cases hx : x == y.1 with
          | true =>
            rw [hx] at e;have e2 : x = y.1 := eq_of_beq hx;cases e;rw [e2]; exact ec
          | false =>
            rw [hx] at e;exact hc x d e
        obtain ⟨cl, e1, e2, e3, e4⟩ := ih ((y.1, c) :: cs) hr hc';refine ⟨cl, ?_, e2, fun x hx => e3 x ?_, fun z hz hzf => ?_⟩
        . rw [List.forIn_cons]
          have ek : (y.2 == NameKind.free) = true := by rw [hf]; rfl
          simp only [ek, if_true, cellOf, ec, pure_bind];exact e1
        . rw [ZF]; split <;> first | rfl | exact hx
        . rcases ZK.mp hz with rfl | hz
          . have := e3 z.1 (by rw [ZF, beq_self_eq_true]; rfl)
            exact Option.isSome_iff_exists.mp this
          . exact e4 z hz hzf
      . obtain ⟨cl, e1, e2, e3, e4⟩ := ih cs hr hc
        refine ⟨cl, ?_, e2, e3, fun z hz hzf => ?_⟩
        . rw [List.forIn_cons]
          have ek : (y.2 == NameKind.free) = false := by simpa using hf
          simp only [ek, Bool.false_eq_true, if_false, pure_bind];exact e1
        . rcases ZK.mp hz with rfl | hz
          . exact absurd hzf hf
          . exact e4 z hz hzf
  obtain ⟨cl, e1, e2, _, e4⟩ := all scope.names [] h (fun _ _ z => by cases z);refine ⟨cl, ?_, e2, e4⟩;unfold closureFor
  first
    | (rw [show (forIn scope.names ([] : List (Str × Addr)) _ : Sem (List (Str × Addr))) = pure cl from e1]; rfl)
    | (simp only [bind_pure]; exact e1)
    | (show (forIn scope.names [] _ >>= _) = _; exact (congrArg (fun t => t >>= fun cs => pure cs) e1))
structure Dyn where
  cl : List (Str × Addr)
  C : Addr
  s₀ : Shared
  H₀ : Hp
  fp : List Addr
abbrev yb (X : Cx) (scope : Scope) (N' : List Str) (d : Dyn) : Cx where
  prog := X.prog
  w := X.w
  K := X.K
  mg := X.mg
  base := X.base
  A := X.A
  N := N'
  s₀ := d.s₀
  H₀ := d.H₀
  env := compEnvC scope d.cl d.C X.env
  outer := X.stack
  stack := X.stack
  ex := d.fp
  fn := fun _ => false
  calm := true
  pn := []
  xe := fun _ _ => False
theorem zay {prog : Program} {w : World} {A : Around} {R : Result -> Shared -> Prop} {s : Shared} {elt target iter : Expr} {ifs : List Expr} {scope : Scope} {pos : Pos} {it acc : Value} {env : Env} (I : Nat -> Shared -> Prop)
    (turn : ∀ n s, I n s -> wpAny (model prog w) A (pyNext it) (fun r s₁ => match r with
      | none => R (.ok .next) s₁
      | some v => wpAny (model prog w) A (letOwnedTupleGo target it v) (fun _ s₁' => wpAny (model prog w) A (assign target env v) (fun _ s₂ =>
          wpAny (model prog w) A (forIn ifs true fun c r => if r = true then do let ok <- isTrue c env (eval c env); pure (ForInStep.yield ok) else pure (ForInStep.yield r)) (fun ok s₃ =>
            if ok = true then wpAny (model prog w) A (eval elt env) (fun x s₄ =>
              wpAny (model prog w) A (call (.builtin "list.append") [acc, x]) (fun _ s₅ => ∃ m, m < n /\ I m s₅) (fun _ _ => False) s₄) (fun _ _ => False) s₃
            else ∃ m, m < n /\ I m s₃) (fun _ _ => False) s₂) (fun _ _ => False) s₁') (fun _ _ => False) s₁) (fun _ _ => False) s)
    (n : Nat) (h : I n s) :
    codeAny (model prog w) A (.compLoop (.ListComp elt [⟨target, iter, ifs, 0⟩] scope pos) 0 it acc env) R s := by
  refine codeAny_loop rfl I (fun n s hI => ?_) n h
  show wpAny _ A ((compTurn (.ListComp elt [⟨target, iter, ifs, 0⟩] scope pos) 0 it acc env).onRaise (fun x => do noteFrame x env; theTreesLotGoes x)) _ _ s
  refine wpAny_noted ?_;rw [compTurn_list];refine wpAny_bind (wpAny_standAt (wpAny_bind (wpAny_mono (turn n s hI) (fun r s₁ h₁ => ?_) fun _ _ f => f.elim)))
  cases r with
  | none => exact wpAny_pure h₁
  | some v =>
    refine wpAny_bind (wpAny_mono h₁ (fun _ s₁' h₁' => ?_) fun _ _ f => f.elim);refine wpAny_bind (wpAny_mono h₁' (fun _ s₂ h₂ => wpAny_bind (wpAny_mono h₂ (fun ok s₃ h₃ => ?_) fun _ _ f => f.elim)) fun _ _ f => f.elim)
    cases ok with
    | false => exact wpAny_pure ⟨rfl, h₃⟩
    | true =>
      exact wpAny_bind (wpAny_bind (wpAny_mono h₃ (fun x s₄ h₄ => wpAny_bind (wpAny_mono h₄ (fun _ s₅ h₅ => wpAny_pure (wpAny_pure ⟨rfl, h₅⟩)) fun _ _ f => f.elim)) fun _ _ f => f.elim))
def PTs (X : Cx) (ifs : List Expr) (t : TT) : Prop :=
  ∀ (pins : List (Addr × Obj)) (s : Shared) (σ : St) (H : Hp) (Q : Bool -> Hp -> Prop), Inv X pins σ H s -> t σ H Q ->
    wpAny (model X.prog X.w) X.A (forIn ifs true fun c r => if r = true then do let ok <- isTrue c X.env (eval c X.env); pure (ForInStep.yield ok) else pure (ForInStep.yield r)) (TP X pins σ Q) X.xe s
def tAll : TT := fun _ H Q => Q true H
theorem yc {X : Cx} : PTs X [] tAll := fun _ _ _ H _ I h => wpAny_tests_nil ⟨H, I, h⟩
theorem zgu {X : Cx} {c : Expr} {t : TT} (h : PT X c t) : PTs X [c] t := fun pins s σ H Q I q => wpAny_tests_one (h pins s σ H Q I q)
def rb (J : It) (σ : St) (k : Nat) (g : TG) (tt : TT) (te : TE) (H1 : Hp) (Fin : List V -> Hp -> Prop) : Prop :=
  ∃ W : Nat -> Nat -> List V -> Hp -> Prop, (∃ m, W 0 m [] H1) /\ ∀ i m ys H, W i m ys H -> ys.length <= sizeLine /\
    ((J.stop i H /\ Fin ys H) \/ (J.go i H /\ ∃ N : List V -> Hp -> Prop, (∀ ys' H', N ys' H' -> ∃ m', m' < m /\ W (i + 1) m' ys' H') /\ ∀ x H', J.yld i H x H' -> g x (List.replicate k none ++ σ) H' fun σ2 H2 => σ2.drop k = σ /\
      tt σ2 H2 fun b H3 => if b = true then te σ2 H3 fun v H4 => N (ys ++ [v]) H4 else N ys H3))
abbrev lobj (its : List Value) : Obj := { cls := .type "list", data := .seq its.toArray its.length }
section
variable {X : Cx} {pins : List (Addr × Obj)} {σ : St} {H2 : Hp} {s₂ : Shared} {scope : Scope} {ts N2 : List Str} {cl : List (Str × Addr)} {C D : Addr} {fp : List Addr}
theorem zhx (I2 : Inv X pins σ H2 s₂) (hc : X.calm = true) (f2 : ∀ b ∈ fp, FpOk X pins H2 b /\ b < s₂.heap.objs.size) (hkind : scope.kind = .function) (hown : qu scope.names = true) (hfree : rm scope.names X.env = true)
    (hcl1 : ∀ x c, cl.lookup x = some c -> X.env.cells.lookup x = some c) (hcl2 : ∀ y ∈ scope.names, y.2 = .free -> ∃ c, cl.lookup y.1 = some c) (hC : s₂.heap.objs.size <= C) :
    (yb X scope (ts ++ N2) ⟨cl, C, s₂, H2, fp⟩).Ok := by
  refine ⟨I2.ok.mod, hkind, I2.ok.glob, I2.ok.blt, hC, fun x y c e1 e2 => I2.ok.inj x y c (hcl1 _ _ e1) (hcl1 _ _ e2), fun x hx => ?_, fun x c z _ => absurd (show false = true from z) Bool.false_ne_true, fun _ => I2.ok.hd hc, I2.ok.frames, .inl rfl, fun b hb => ?_, I2.bs, Zd I2.ok.bsz I2.sz, fun b o e hb => ?_, fun b hb hfs => ?_, I2.stack, I2.stkFree⟩
  . have hx' : (relabel scope X.env).names.lookup x = some .cell \/ (relabel scope X.env).names.lookup x = some .free := hx
    have e0 : (relabel scope X.env).names.lookup x = _ := sf (env := X.env) (x := x) (ns := scope.names);rw [e0] at hx'
    cases q : scope.names.lookup x with
    | none => rw [q] at hx'; simp at hx'
    | some k =>
      rw [q] at hx';simp only [YI, Option.some.injEq] at hx';have hm : (x, k) ∈ scope.names := PySem.mem_of_lookup q
      have hk : k = .free := by
        have nc := ky hown _ hm
        split at hx'
        . rename_i hcond
          simp only [Bool.and_eq_true] at hcond;exact eq_of_beq hcond.1.1
        . rcases hx' with z | z
          . exact absurd z nc
          . exact z
      exact hcl2 _ hm hk
  . obtain ⟨⟨f0, f1, f3, f4, f5, f6⟩, hlt⟩ := f2 b hb
    exact ⟨Zs (Zh hlt hC), fun x c e => f5 x c (hcl1 x c e)⟩
  . obtain ⟨⟨f0, f1, f3, f4, f5, f6⟩, hlt⟩ := f2 b hb
    rcases f4 with z | z
    . exact I2.ok.noex b o e z
    . exact absurd (Zh (Heap.lt_size e) (Zd I2.ok.bsz z)) (ZJ _)
  . obtain ⟨⟨f0, f1, f3, f4, f5, f6⟩, hlt⟩ := f2 b hb
    rcases ZK.mp (I2.stkSub b hfs) with z | z
    . exact f1 z
    . exact f3 z
theorem i7 (I2 : Inv X pins σ H2 s₂) (hc : X.calm = true) (f2 : ∀ b ∈ fp, FpOk X pins H2 b /\ b < s₂.heap.objs.size) (hkind : scope.kind = .function) (hown : qu scope.names = true) (hfree : rm scope.names X.env = true) (hout : wx scope.names N2 X.N = true)
    (hcl1 : ∀ x c, cl.lookup x = some c -> X.env.cells.lookup x = some c) (hcl2 : ∀ y ∈ scope.names, y.2 = .free -> ∃ c, cl.lookup y.1 = some c) (hC : s₂.heap.objs.size <= C) (hDC : D ≠ C) (hD : s₂.heap.objs.size <= D)
    {h₁ : Heap} {tk : Nat} {m : Str -> Option Value} (hn : h₁.Ns C m) (old : ∀ b o, s₂.heap.get? b = some o -> h₁.get? b = some o) (hacc : h₁.get? D = some (lobj [])) :
    Inv (yb X scope (ts ++ N2) ⟨cl, C, s₂, H2, fp⟩) [(D, lobj [])] (List.replicate ts.length none ++ σ) H2 { s₂ with heap := h₁, toks := tk } := by
  have ok := zhx (ts := ts) (N2 := N2) I2 hc f2 hkind hown hfree hcl1 hcl2 hC
  have hlN : ∀ {a b : List Str}, wx scope.names a b = true -> a.length = b.length := by
    intro a
    induction a with
    | nil => intro b h; cases b with | nil => rfl | cons _ _ => cases h
    | cons y ys ih =>
      intro b h
      cases b with
      | nil => cases h
      | cons n ms =>
        unfold wx at h;rw [Bool.and_eq_true] at h;rw [ZL, ZL, ih h.2]
  refine ⟨ok, rfl, I2.bare, Un.kept old, ⟨m, hn, fun i x v e1 e2 e3 => ?_⟩, fun x c e => ?_, ?_, fun x c e => I2.freeC x c (hcl1 x c e), fun p hp => ?_, I2.hok.kept old, ?_⟩
  . by_cases hi : i < ts.length
    . rw [Zg (by simpa using hi), Yk] at e2
      split at e2 <;> cases e2
    . have hi' : ts.length <= i := ZD.mp hi
      rw [Zf (by simpa using hi')] at e2;rw [ZI] at e2;have e1' : (ts ++ N2)[i]? = some x := e1;rw [Zf hi'] at e1';obtain ⟨k1, k2⟩ := gx hout e1';have e0 : (relabel scope X.env).names.lookup x = _ := sf (env := X.env) (x := x) (ns := scope.names);have e3' : (relabel scope X.env).names.lookup x = some .local \/ (relabel scope X.env).names.lookup x = some .cell \/ (relabel scope X.env).names.lookup x = some .free := e3;rw [e0] at e3'
      cases q : scope.names.lookup x with
      | none => rw [q] at e3'; simp at e3'
      | some k =>
        have hm : (x, k) ∈ scope.names := PySem.mem_of_lookup q
        have hk : k = .free := by
          unfold iz at k1;rw [q] at k1 e3'
          cases k with
          | free => rfl
          | «local» => cases k1
          | cell => cases k1
          | _ => exfalso; revert e3'; simp
        subst hk;obtain ⟨mo, hmo, hl⟩ := I2.loc;have hkv := ph hfree hm rfl;have vis : Vis X.env.scope x := hkv.elim (fun z => .inr (.inl z)) fun z => .inr (.inr z)
        obtain ⟨u, r, l⟩ := hl _ x v (k2 q) e2 vis;refine ⟨u, r, .inr ⟨?_, ?_⟩⟩
        . show (relabel scope X.env).names.lookup x = some .cell \/ (relabel scope X.env).names.lookup x = some .free
          rw [e0, q];simp only [YI, Option.some.injEq]
          split
          . exact .inl rfl
          . exact .inr rfl
        . rcases l with ⟨kl, _⟩ | ⟨_, c, ec, z⟩
          . exfalso
            rcases hkv with z | z <;> (rw [kl] at z; cases z)
          . obtain ⟨c', ec'⟩ := hcl2 _ hm rfl
            have := hcl1 _ _ ec';rw [ec] at this;cases this;obtain ⟨o, ho, hd⟩ := z;exact ⟨c, ec', o, old _ _ ho, hd⟩
  . obtain ⟨v, o, ho, hd⟩ := I2.cell x c (hcl1 x c e)
    exact ⟨v, o, old _ _ ho, hd⟩
  . exact I2.hok.fresh hC
  . have e : p = (D, lobj []) := by simpa using hp
    subst e;refine ⟨hacc, I2.hok.fresh hD, hDC, fun z => ?_, fun v z => by cases z⟩
    rcases ZK.mp (I2.stkSub D z) with z | z
    . exact absurd (Zh I2.lt (by rw [<- z]; exact hD)) (ZJ _)
    . exact I2.nofs hD z
  . show (List.replicate ts.length none ++ σ).length = (ts ++ N2).length
    rw [Zo, Zo, ZI, I2.len, hlN hout]
theorem ah (I2 : Inv X pins σ H2 s₂) (f2 : ∀ b ∈ fp, FpOk X pins H2 b) (hD : s₂.heap.objs.size <= D) {σ' : St} {H' : Hp} {s' : Shared} {its : List Value} {ys : List V} {pl : List (Addr × Obj)}
    (J : Inv (yb X scope (ts ++ N2) ⟨cl, C, s₂, H2, fp⟩) pl σ' H' s') (hp : s'.heap.get? D = some (lobj its)) (hn : H' D = none) (hv : Vals ys its) (hz : ys.length <= sizeLine) : Inv X pins σ (upd H' D (.lst ys)) s' := by
  have neD : ∀ b o, s₂.heap.get? b = some o -> b ≠ D := fun b o e => Zs (Zh (Heap.lt_size e) hD)
  have neH : ∀ b o, H2 b = some o -> b ≠ D := fun b o e => Zs (Zh (I2.hok.lt e) hD)
  have u := J.base
  have un : Un (frs X.stack) fp H2 (upd H' D (.lst ys)) s₂.heap s'.heap :=
    ⟨u.keep, u.slot, fun b o e n hx => by rw [zr (neD b o e)]; exact u.free b o e n hx, u.there, fun b xs e => by rw [zr (neH b _ e)]; exact u.tups b xs e, fun b o v e => by rw [zr (neH b _ e)]; exact u.frzs b o v e,
      fun b ps e => by rw [zr (neH b _ e)]; exact u.tbls b ps e⟩
  have hok : HOk X.prog X.w (upd H' D (.lst ys)) s'.heap := fun b o e => by
    by_cases hb : b = D
    . subst hb
      rw [ze] at e;cases e;exact ⟨hz, its, its.length, hv, hp⟩
    . rw [zr hb] at e
      exact (J.hok b o e).stay (fun c v _ q => q) (fun c q => by rw [zr (y6 q hn)]; exact q) fun c xs q => by rw [zr (y6 q hn)]; exact q
  exact I2.call' (ch := fp) J.os un hok J.bare fun b hb => by
    obtain ⟨f0, f1, f3, f4, f5, f6⟩ := f2 b hb;exact ⟨f4, f1, f5, f6⟩
theorem gd {E : Value -> Shared -> Prop} {tg elt iter : Expr} {ifs : List Expr} {pos : Pos} {it : Addr} {tn : Nat -> Heap -> Prop} {J : It} {g : Dyn -> TG} {tt : Dyn -> TT} {te : Dyn -> TE} {RR : Value -> Addr -> Result -> Shared -> Prop} {Fin : List V -> Hp -> Prop}
    (I2 : Inv X pins σ H2 s₂) (hc : X.calm = true) (T : Turn X.prog X.w X.K tg J fp it tn) (st : tn 0 s₂.heap) (f2 : ∀ b ∈ fp, FpOk X pins H2 b) (hkind : scope.kind = .function) (hown : qu scope.names = true) (hfree : rm scope.names X.env = true) (hout : wx scope.names N2 X.N = true)
    (hcl1 : ∀ x c, cl.lookup x = some c -> X.env.cells.lookup x = some c) (hcl2 : ∀ y ∈ scope.names, y.2 = .free -> ∃ c, cl.lookup y.1 = some c)
    (hg : ∀ d, PG (yb X scope (ts ++ N2) d) tg (g d)) (ht : ∀ d, PTs (yb X scope (ts ++ N2) d) ifs (tt d)) (he : ∀ d, PE (yb X scope (ts ++ N2) d) elt (te d))
    (hW : ∀ d, rb J σ ts.length (g d) (tt d) (te d) H2 Fin)
    (hRR : ∀ D C s' H' ys, s₂.heap.objs.size <= C -> C ≠ D -> Inv X pins σ (upd H' D (.lst ys)) s' -> H' D = none -> H' C = none -> (∃ m, s'.heap.Ns C m) -> ys.length <= sizeLine -> Fin ys H' -> RR (.ref D) C (.ok .next) s') :
    wpAny (model X.prog X.w) X.A (newList []) (fun acc s₃ => wpAny (model X.prog X.w) X.A (newFunctionEnv scope X.env.globals cl [] X.env.qual none .none (some X.env)) (fun cenv s₄ =>
      codeAny (model X.prog X.w) X.A (.compStart (.ListComp elt [⟨tg, iter, ifs, 0⟩] scope pos) 0 (.ref it) acc { cenv with scope := relabel scope X.env }) (RR acc cenv.locals) s₄) E s₃) E s₂ := by
  refine wpAny_newObj_type (wpAny_newFunctionEnv (ky hown) (by intro y hy; simp at hy) (fun h₁ hns₁ hsb₁ => ?_) hkind);dsimp only at hns₁ hsb₁ ⊢;generalize hH2 : s₂.heap.push { cls := .type "list", dict := none, data := .seq ([] : List Value).toArray } = HP at hns₁ hsb₁ ⊢;have hC : HP.objs.size = s₂.heap.objs.size + 1 := by rw [<- hH2, Heap.size_push]
  have hDC : s₂.heap.objs.size ≠ HP.objs.size := by rw [hC]; exact Zs (YF _)
  have hCle : s₂.heap.objs.size <= HP.objs.size := by rw [hC]; exact YE _
  have below : ∀ b, b < s₂.heap.objs.size -> b ≠ HP.objs.size /\ b ≠ s₂.heap.objs.size := fun b hb => ⟨by rw [hC]; exact Zs (Yo hb), Zs hb⟩
  have old : ∀ b o, s₂.heap.get? b = some o -> h₁.get? b = some o := fun b o e => hsb₁.extBut b o (below b (Heap.lt_size e)).1 (Heap.get?_push_of_some _ (hH2 ▸ Heap.get?_push_of_some _ e))
  have hacc : h₁.get? s₂.heap.objs.size = some (lobj []) := hsb₁.extBut _ _ hDC (Heap.get?_push_of_some _ (hH2 ▸ Heap.get?_push_size _ rfl))
  have flt : ∀ b ∈ fp, b < s₂.heap.objs.size := fun b hb => by
    obtain ⟨o, e, _⟩ := T.obj _ _ st b hb;exact Heap.lt_size e
  generalize hDD : s₂.heap.objs.size = D at *;generalize hCC : HP.objs.size = C at *;have hDle : s₂.heap.objs.size <= D := Nat.le_of_eq hDD;have I4 := fun (tk : Nat) => i7 (ts := ts) (D := D) (C := C) (tk := tk) I2 hc (fun b hb => ⟨f2 b hb, by rw [hDD]; exact flt b hb⟩) hkind hown hfree hout hcl1 hcl2 (by rw [hDD]; exact hCle) hDC hDle hns₁ old hacc
  generalize hd : (⟨cl, C, s₂, H2, fp⟩ : Dyn) = d at *;obtain ⟨W, ⟨m0, w0⟩, turn⟩ := hW d
  have Xs : ∀ {pl : List (Addr × Obj)} {H' : Hp}, (∀ b ∈ fp, H' b = none) -> (∀ p ∈ pl, p.1 = D) -> ∀ b ∈ fp, FpOk (yb X scope (ts ++ N2) d) pl H' b := fun {pl H'} hn hp b hb => by
    subst hd;obtain ⟨f0, f1, f3, f4, f5, f6⟩ := f2 b hb;refine ⟨hn b hb, (below b (flt b hb)).1, fun z => ?_, .inl hb, fun x c e => f5 x c (hcl1 x c e), fun p hp' => ?_⟩
    . rcases ZK.mp (I2.stkSub b z) with z | z
      . exact f1 z
      . exact f3 z
    . rw [hp p (by simpa using hp')]
      exact Ne.symm (below b (flt b hb)).2
  have loop : ∀ s₃ : Shared, s₃ = { s₂ with heap := h₁, toks := s₂.toks + ([] : List (Str × Value)).length } ->
      codeAny (model X.prog X.w) X.A (.compLoop (.ListComp elt [⟨tg, iter, ifs, 0⟩] scope pos) 0 (.ref it) (.ref D) (compEnvC scope cl C X.env)) (RR (.ref D) C) s₃ := by
    rintro s₃ rfl
    refine zay (fun n s' => ∃ i ys H' its, Inv (yb X scope (ts ++ N2) d) [(D, lobj its)] (List.replicate ts.length none ++ σ) H' s' /\ tn i s'.heap /\ (∀ b ∈ fp, H' b = none) /\ Vals ys its /\ W i n ys H') ?_ m0
      ⟨0, [], H2, [], I4 _, T.keep _ _ _ st fun b _ o e => old b o e, fun b hb => (f2 b hb).1, .nil, w0⟩
    rintro n s3 ⟨i, ys, H3, its, I3, st3, fr3, hv3, w3⟩
    obtain ⟨hlen, tr⟩ := turn i n ys H3 w3
    have one : ∀ p ∈ [(D, lobj its)], p.1 = D := fun p hp => by
      have e : p = (D, lobj its) := by simpa using hp
      rw [e]
    have eenv : (yb X scope (ts ++ N2) d).env = compEnvC scope cl C X.env := by subst hd; rfl
    rcases tr with ⟨stop, fin⟩ | ⟨go, N, hN, step⟩
    . refine thn (T.done (yb X scope (ts ++ N2) d) rfl rfl rfl rfl i _ s3 _ H3 (fun _ _ => False) I3 (Xs fr3 one) st3 stop) fun r s4 ⟨hr, J4⟩ => ?_
      subst hr
      show RR (.ref D) C (.ok .next) s4
      obtain ⟨pe, pn, _⟩ := J4.pin (D, lobj its) (by simp);have fC : H3 C = none := by have := J4.free; rw [eenv] at this; exact this
      have nC : ∃ m, s4.heap.Ns C m := by
        obtain ⟨m, z, _⟩ := J4.loc;rw [eenv] at z;exact ⟨m, z⟩
      subst hd;exact hRR D C s4 H3 ys hCle (Ne.symm hDC) (ah I2 f2 hDle J4 pe pn hv3 hlen) pn fC nC hlen fin
    . refine thn (T.item (yb X scope (ts ++ N2) d) rfl rfl rfl rfl i _ s3 _ H3 (fun _ _ => False) I3 (Xs fr3 one) st3 go) fun r s4 ⟨u, hr, h4⟩ => ?_
      subst hr;refine thn h4 fun _ s5 ⟨x, H5, I5, r5, y5, st5, fr5⟩ => ?_
      have I5' := I5.pinned (Xs fr5 one) (T.obj _ _ st5);rw [<- eenv];refine thn (hg d _ s5 _ H5 x u _ I5' r5 (step x H5 y5)) fun _ s6 ⟨σ6, H6, I6, hdrop, q6⟩ => ?_
      have back : ∀ {ys' : List V} {its' : List Value} {H' : Hp} {s' : Shared} {pl : List (Addr × Obj)}, Inv (yb X scope (ts ++ N2) d) ([(D, lobj its')] ++ pl) σ6 H' s' -> Inv (yb X scope (ts ++ N2) d) [(D, lobj its')] (List.replicate ts.length none ++ σ) H' s' := fun {ys' its' H' s' pl} I' => by
        have hl : σ6.length = (ts ++ N2).length := I'.len;refine (I'.pins_of (pins' := [(D, lobj its')]) fun p hp => I'.pin p (Zu _ (ZV _ hp))).weak ?_ ?_
        . rw [hl]; exact I3.len
        . intro j v e
          by_cases hj : j < ts.length
          . rw [Zg (by simpa using hj), Yk] at e
            split at e <;> cases e
          . have hj' : ts.length <= j := ZD.mp hj
            rw [Zf (by simpa using hj'), ZI, <- hdrop, YK] at e;rw [show ts.length + (j - ts.length) = j by omega] at e;exact e
      refine thn (ht d _ s6 σ6 H6 _ I6 q6) fun b s7 ⟨H7, I7, q7⟩ => ?_
      have pinsOf : ∀ {its' : List Value} {H' : Hp} {s' : Shared}, Inv (yb X scope (ts ++ N2) d) ([(D, lobj its')] ++ m8 fp s5.heap) σ6 H' s' -> (∀ b ∈ fp, ∀ o, s5.heap.get? b = some o -> s'.heap.get? b = some o) /\ ∀ b ∈ fp, H' b = none := fun {its' H' s'} I' => by
        refine ⟨fun b hb o e => (I'.pin (b, o) (Zu _ (Zu _ (wt hb e)))).1, fun b hb => ?_⟩;obtain ⟨o, e, _⟩ := T.obj _ _ st5 b hb;exact (I'.pin (b, o) (Zu _ (Zu _ (wt hb e)))).2.1
      cases b with
      | false =>
        have q7' : N ys H7 := by simpa using q7
        obtain ⟨m', hm, w7⟩ := hN _ _ q7';obtain ⟨k1, k2⟩ := pinsOf I7
        show ∃ m, m < n /\ _
        exact ⟨m', hm, i + 1, ys, H7, its, back (ys' := ys) I7, T.keep _ _ _ st5 k1, k2, hv3, w7⟩
      | true =>
        have q7' : te d σ6 H7 fun v H4 => N (ys ++ [v]) H4 := by simpa using q7
        show wpAny _ _ _ _ _ _
        refine thn (he d _ s7 σ6 H7 _ I7 q7') fun y s8 ⟨v, H8, I8, r8, n8⟩ => ?_
        obtain ⟨m', hm, w8⟩ := hN _ _ n8;obtain ⟨k1, k2⟩ := pinsOf I8;obtain ⟨pe, pn, pC, pf, pd⟩ := I8.pin (D, lobj its) (by simp);have hsz : its.toArray.size <= sizeLine := by rw [Zr, <- hv3.length]; exact hlen
        refine append_at (hsz := hsz) pe fun h9 sb9 e9 => ?_
        have J8 : Inv (yb X scope (ts ++ N2) d) [] σ6 H8 s8 := I8.pins_of fun p hp => nomatch hp
        have hDs : (yb X scope (ts ++ N2) d).s₀.heap.objs.size <= D := by subst hd; exact hDle
        have J9 : Inv (yb X scope (ts ++ N2) d) [] σ6 H8 { s8 with heap := h9 } := J8.turned (t' := s8.toks) (it := D) (fun b o hb e => sb9.extBut b o hb e) pn pC (.inr hDs)
          (fun x c e => by
            obtain ⟨v', z⟩ := I3.cell x c e;subst hd;obtain ⟨v2, z2⟩ := I2.cell x c (hcl1 x c e)
            exact Zs (Zh z2.lt hDle)) (fun p hp => nomatch hp)
        have e9' : h9.get? D = some (lobj (its ++ [y])) := by
          rw [e9]
          show some ({ cls := .type "list", data := .seq (its.toArray.push y) (its.length + 1) } : Obj) = some { cls := .type "list", data := .seq (its ++ [y]).toArray (its ++ [y]).length }
          rw [Zo, Yr, List.push_toArray]
        have J9' : Inv (yb X scope (ts ++ N2) d) ([(D, lobj (its ++ [y]))] ++ []) σ6 H8 { s8 with heap := h9 } := J9.pins_of fun p hp => by
          have e : p = (D, lobj (its ++ [y])) := by simpa using hp
          subst e;exact ⟨e9', pn, pC, pf, fun v z => by cases z⟩
        refine ⟨m', hm, i + 1, ys ++ [v], H8, its ++ [y], back (ys' := ys) J9', ?_, k2, hv3.append (.cons r8 .nil), w8⟩;exact T.keep _ _ _ st5 fun b hb o e => sb9.extBut b o (below b (flt b hb)).2 (k1 b hb o e)
  exact codeAny_compStart_list (loop _ rfl) (T.self _ 0 _ _ _ (T.keep _ _ _ st fun b _ o e => old b o e) (loop _ rfl))
end
def cp (k : Nat) (wi : TI) (g : Dyn -> TG) (tt : Dyn -> TT) (te : Dyn -> TE) : TE := fun σ H Q => wi σ H fun J H1 => ∀ d : Dyn, rb J σ k (g d) (tt d) (te d) H1 fun ys H' => ∀ l, H' l = none -> Q (.ref l) (upd H' l (.lst ys))
theorem yk {X : Cx} {tg elt iter : Expr} {ifs : List Expr} {scope : Scope} {pos : Pos} (ts N2 : List Str) {wi : TI} {g : Dyn -> TG} {tt : Dyn -> TT} {te : Dyn -> TE} (hc : X.calm = true) (hi : PI X tg iter wi)
    (hg : ∀ d, PG (yb X scope (ts ++ N2) d) tg (g d)) (ht : ∀ d, PTs (yb X scope (ts ++ N2) d) ifs (tt d)) (he : ∀ d, PE (yb X scope (ts ++ N2) d) elt (te d))
    (hkind : scope.kind = .function) (hown : qu scope.names = true) (hfree : rm scope.names X.env = true) (hout : wx scope.names N2 X.N = true)
    (hs : ∀ x, foldedSetIterable iter X.env x = pure x := by intro _; rfl) : PE X (.ListComp elt [⟨tg, iter, ifs, 0⟩] scope pos) (cp ts.length wi g tt te) := by
  intro pins s σ H Q I h;obtain ⟨cl, hclos, hcl1, hcl2⟩ := lq (scope := scope) (env := X.env) fun y hy hf => I.ok.has y.1 (ph hfree hy hf)
  rw [eval_ListComp];refine wpAny_comprehension_free (use := none) rfl hs hclos hkind (mn hown) (thn (hi pins s σ H _ I h) fun v s1 h1 => thn h1 fun itv s2 h2 => ?_);obtain ⟨it, fp, tn, J, H2, e, I2, T, st2, f2, hW⟩ := h2;subst e;refine gd (RR := fun acc C => compPost (model X.prog X.w) X.A X.xe none (EP X pins σ Q) acc C) I2 hc T st2 f2 hkind hown hfree hout hcl1 hcl2 hg ht he hW ?_;intro D C s' H' ys hC hCD I' hD hCn hNs hl fin;obtain ⟨m, hm⟩ := hNs;refine ⟨m, hm, fun h' sb => ?_⟩
  have I'' : Inv X pins σ (upd H' D (.lst ys)) { s' with heap := h' } := by
    refine I'.turned (t' := s'.toks) (it := C) (fun b o hb e => sb.extBut b o hb e) (by rw [zr hCD]; exact hCn) (Yq (Zh I2.lt hC)) (.inr (Zd I2.sz hC)) (fun x c e => ?_) fun p hp => ?_
    . obtain ⟨v, q⟩ := I2.cell x c e
      exact Zs (Zh q.lt hC)
    . exact Zs (Zh (Heap.lt_size (I2.pin p hp).1) hC)
  exact ⟨.ref D, _, I'', rfl, fin D hD⟩
def tSetC (i : Nat) (te : TE) : TS := fun D σ H => te σ H fun x H1 => D.nx (σ.set i (some x)) H1
theorem w6 {X : Cx} {tg elt iter : Expr} {ifs : List Expr} {scope : Scope} {pos spos py : Pos} {i : Nat} {y : Str} (ts N2 : List Str) {wi : TI} {g : Dyn -> TG} {tt : Dyn -> TT} {te : Dyn -> TE} (hN : X.N.Nodup) (hi' : X.N[i]? = some y) (hy : X.env.scope.names.lookup y = some .local) (hc : X.calm = true) (hi : PI X tg iter wi)
    (hg : ∀ d, PG (yb X scope (ts ++ N2) d) tg (g d)) (ht : ∀ d, PTs (yb X scope (ts ++ N2) d) ifs (tt d)) (he : ∀ d, PE (yb X scope (ts ++ N2) d) elt (te d))
    (hkind : scope.kind = .function) (hown : qu scope.names = true) (hfree : rm scope.names X.env = true) (hout : wx scope.names N2 X.N = true)
    (hsw : swapsWith (.ListComp elt [⟨tg, iter, ifs, 0⟩] scope pos) (some (.Name y py)) spos.line X.env = pure true)
    (hs : ∀ x, foldedSetIterable iter X.env x = pure x := by intro _; rfl) : PS X (.Assign [.Name y py] (.ListComp elt [⟨tg, iter, ifs, 0⟩] scope pos) spos) (tSetC i (cp ts.length wi g tt te)) := by
  intro pins s σ H D0 I h;obtain ⟨cl, hclos, hcl1, hcl2⟩ := lq (scope := scope) (env := X.env) fun z hz hf => I.ok.has z.1 (ph hfree hz hf)
  rw [exec_Assign_Name_used _ _ _ _ hsw];refine wpAny_bind (wpAny_standAt (wpAny_bind ?_))
  show wpAny _ X.A (do let _ <- comprehension (.ListComp elt [⟨tg, iter, ifs, 0⟩] scope pos) scope X.env _ (newList []) false (eval iter X.env) (some (assign (.Name y py) X.env))) _ _ s
  refine wpAny_bind (wpAny_mono (wpAny_comprehension_free (use := some (assign (.Name y py) X.env)) (Q := fun _ s' => SP X pins D0 .next s') rfl hs hclos hkind (mn hown)
    (thn (hi pins s σ H _ I h) fun v s1 h1 => thn h1 fun itv s2 h2 => ?_)) (fun _ s' hq => wpAny_pure (wpAny_pure hq)) fun _ _ e => e)
  obtain ⟨it, fp, tn, J, H2, e, I2, T, st2, f2, hW⟩ := h2;subst e;refine gd (RR := fun acc C => compPost (model X.prog X.w) X.A X.xe (some (assign (.Name y py) X.env)) (fun _ s' => SP X pins D0 .next s') acc C) I2 hc T st2 f2 hkind hown hfree hout hcl1 hcl2 hg ht he hW ?_;intro D C s' H' ys hC hCD I' hD hCn hNs hl fin;obtain ⟨m, hm⟩ := hNs
  show wpAny _ _ _ _ _ _
  have hcl : C ≠ X.env.locals := Yq (Zh I2.lt hC)
  have hcc : ∀ x c, X.env.cells.lookup x = some c -> c ≠ C := fun x c e => by
    obtain ⟨v, q⟩ := I2.cell x c e;exact Zs (Zh q.lt hC)
  refine wpAny_assign_Name (dj I' hN hi' (.inl hy) (v := .ref D) (u := .ref D) rfl (fun s'' I'' ⟨a, sb, ha⟩ => ?_) (.inr hy))
  have haC : C ≠ a := by
    rcases ha with z | z
    . rw [z]; exact hcl
    . exact Ne.symm (hcc y a z)
  refine ⟨m, hm.sameBut sb haC, fun h' sb' => ?_⟩
  have I3 : Inv X pins (σ.set i (some (.ref D))) (upd H' D (.lst ys)) { s'' with heap := h' } := by
    refine I''.turned (t' := s''.toks) (it := C) (fun b o hb e => sb'.extBut b o hb e) (by rw [zr hCD]; exact hCn) hcl (.inr (Zd I2.sz hC)) hcc fun p hp => ?_
    exact Zs (Zh (Heap.lt_size (I2.pin p hp).1) hC)
  exact ⟨_, _, I3, fin D hD⟩
section
variable {σ : St} {k : Nat} {g : TG} {tt : TT} {te : TE} {H1 : Hp} {Fin : List V -> Hp -> Prop}
theorem y7 {lo : Int} {n : Nat} (Pv : Nat -> List V -> Hp -> Prop) (h0 : Pv 0 [] H1) (hz : ∀ i ys H, i <= n -> Pv i ys H -> ys.length <= sizeLine)
    (hs : ∀ i ys H, i < n -> Pv i ys H -> g (.int (lo + i)) (List.replicate k none ++ σ) H fun σ2 H2 => σ2.drop k = σ /\ tt σ2 H2 fun b H3 => if b = true then te σ2 H3 fun v H4 => Pv (i + 1) (ys ++ [v]) H4 else Pv (i + 1) ys H3)
    (hd : ∀ ys H, Pv n ys H -> Fin ys H) : rb (Itr lo n) σ k g tt te H1 Fin := by
  refine ⟨fun i m ys H => m = n - i /\ i <= n /\ Pv i ys H, ⟨n, by simp, ZE _, h0⟩, ?_⟩
  rintro i m ys H ⟨rfl, hi, p⟩
  refine ⟨hz i ys H hi p, ?_⟩
  by_cases hlt : i < n
  . refine .inr ⟨hlt, Pv (i + 1), fun ys' H' p' => ⟨n - (i + 1), by omega, rfl, hlt, p'⟩, fun x H' y => ?_⟩
    obtain ⟨e, y⟩ := y;subst e y;exact hs i ys _ hlt p
  . have e : i = n := by omega
    subst e;exact .inl ⟨Zm _, hd ys H p⟩
theorem yo {K : Fg} {a : Addr} {xs : List V} (Pv : Nat -> List V -> Hp -> Prop) (h0 : Pv 0 [] H1) (hz : ∀ i ys H, i <= xs.length -> Pv i ys H -> ys.length <= sizeLine /\ SqL K H a xs)
    (hs : ∀ i x ys H, xs[i]? = some x -> Pv i ys H -> g x (List.replicate k none ++ σ) H fun σ2 H2 => σ2.drop k = σ /\ tt σ2 H2 fun b H3 => if b = true then te σ2 H3 fun v H4 => Pv (i + 1) (ys ++ [v]) H4 else Pv (i + 1) ys H3)
    (hd : ∀ ys H, Pv xs.length ys H -> Fin ys H) : rb (Itl K a) σ k g tt te H1 Fin := by
  refine ⟨fun i m ys H => m = xs.length - i /\ i <= xs.length /\ Pv i ys H, ⟨xs.length, by simp, ZE _, h0⟩, ?_⟩
  rintro i m ys H ⟨rfl, hi, p⟩
  have q := (hz i ys H hi p).2;refine ⟨(hz i ys H hi p).1, ?_⟩
  by_cases hlt : i < xs.length
  . refine .inr ⟨⟨xs, xs[i], q, by simp [hlt]⟩, Pv (i + 1), fun ys' H' p' => ⟨xs.length - (i + 1), by omega, rfl, hlt, p'⟩, fun x H' y => ?_⟩
    obtain ⟨e, y⟩ := y;subst e;exact hs i x ys _ (y xs q) p
  . have e : i = xs.length := by omega
    subst e;exact .inl ⟨⟨xs, q, Zm _⟩, hd ys H p⟩
end
end L2
namespace L2
open PySem PySem.Spec PyProof.Rows
theorem kw {xs : List V} {us : List Value} (r : Vals xs us) {j : Nat} (h : j < us.length) : ∃ x, xs[j]? = some x /\ RelV x us[j] := by
  have hl := r.length;have hj : j < xs.length := by omega
  obtain ⟨u, hu, rx⟩ := r.get (i := j) (x := xs[j]) (by simp [hj]);refine ⟨xs[j], by simp [hj], ?_⟩;have : us[j]? = some us[j] := by simp [h]
  rw [this] at hu;cases hu;exact rx
theorem zhv {α : Type} [DecidableEq α] : ∀ {ns ms : List α}, ns.length = ms.length -> ((List.range ns.length).all fun j => decide (ns[j]? = ms[j]?)) = decide (ns = ms) := by
  intro ns ms h
  by_cases e : ns = ms
  . subst e
    simp
  . rw [decide_eq_false e]
    cases q : (List.range ns.length).all fun j => decide (ns[j]? = ms[j]?) with
    | false => rfl
    | true =>
      exfalso
      apply e
      apply YQ
      intro j
      by_cases hj : j < ns.length
      . have := ZP.mp q j (ZW.mpr hj)
        simpa using this
      . rw [ZX (by omega), ZX (by omega)]
section
variable {X : Cx} {pins : List (Addr × Obj)} {σ : St} {H : Hp} {s : Shared} {A : Around} {a b : Addr}
theorem zam {us vs : List Value} {ns ms : List Int} (hu : Vals (ns.map V.int) us) (hv : Vals (ms.map V.int) vs) (hl : ns.length = ms.length) :
    ∀ j (h1 : j < us.toArray.size) (h2 : j < vs.toArray.size), SeqAt.EqAt A s us.toArray[j] vs.toArray[j] (decide (ns[j]? = ms[j]?)) := by
  intro j h1 h2;have h1' : j < us.length := by simpa using h1
  have h2' : j < vs.length := by simpa using h2
  obtain ⟨x, ex, rx⟩ := kw hu h1';obtain ⟨y, ey, ry⟩ := kw hv h2';rw [Ze] at ex ey
  cases e1 : ns[j]? with
  | none => rw [e1] at ex; cases ex
  | some n =>
    cases e2 : ms[j]? with
    | none => rw [e2] at ey; cases ey
    | some m =>
      rw [e1] at ex; rw [e2] at ey;cases ex; cases ey;obtain ⟨t, q1⟩ := rx;obtain ⟨t', q2⟩ := ry
      have z : decide (some n = some m) = (n == m) := by
        by_cases e : n = m
        . subst e; simp
        . rw [decide_eq_false (by simpa using e)]; exact (beq_eq_false_iff_ne.mpr e).symm
      rw [z];have q1' : us.toArray[j] = Value.int n t := by simpa using q1
      have q2' : vs.toArray[j] = Value.int m t' := by simpa using q2
      rw [q1', q2'];exact SeqAt.EqAt.int_int n t m t'
end
def GridL (K : Fg) (H : Hp) (a : Addr) (as : List Addr) (rows : List (List Int)) : Prop := SqL K H a (as.map V.ref) /\ as.length = rows.length /\ ∀ (i : Nat) (r : Addr) (ns : List Int), as[i]? = some r -> rows[i]? = some ns -> SqL K H r (ns.map V.int)
section
variable {X : Cx} {pins : List (Addr × Obj)} {σ : St} {H : Hp} {s : Shared} {A : Around} {a b : Addr}
theorem op_eqL (hu : X.A.units < cLine) : OpR X (compareOp .Eq) (fun x y H Q => ∃ (a b : Addr) (ns ms : List Int), x = .ref a /\ y = .ref b /\ SqL X.K H a (ns.map V.int) /\ SqL X.K H b (ms.map V.int) /\ Q (.bl (decide (ns = ms))) H) := by
  intro pins s σ H x y v u Q I rx ry h;obtain ⟨a, b, ns, ms, rfl, rfl, ha, hb, q⟩ := h;cases rx; cases ry;obtain ⟨us, r1, p1, z1⟩ := I.list ha;obtain ⟨vs, r2, p2, z2⟩ := I.list hb;have l1 := r1.length;have l2 := r2.length;rw [Za] at l1 l2
  by_cases hl : ns.length = ms.length
  . refine SeqAt.eq_listAt p1.isList p2.isList (by simp; omega) hu (zam (A := X.A.in1) (s := s) r1 r2 hl) ?_
    rw [Zr, <- l1, zhv hl];exact ⟨.bl (decide (ns = ms)), H, I, rfl, q⟩
  . refine SeqAt.eq_list_lengthsAt p1.isList p2.isList (by simp; omega) hu ?_
    rw [decide_eq_false (fun z => hl (by rw [z]))] at q;exact ⟨.bl false, H, I, rfl, q⟩
end
def kit0 (T1 T2 : String) : Option Bool := if (Value.type T1 == Value.type T2) = true then some true else if PySem.W.kitMeta T2 = true then (fastBuiltinMro T1).map (·.contains (Value.type T2)) else none
theorem zgb (K : Fg) (T1 T2 : String) : PySem.W.kitOne K (.type T1) (.type T2) = kit0 T1 T2 := rfl
section
variable {X : Cx}
theorem y4 : xt X (.builtin "isinstance") (fun xs H Q => ∃ x T T1 b, xs = [x, .ty T] /\ TyOf X.K H x (.type T1) /\ kit0 T1 T = some b /\ Q (.bl b) H) := by
  intro pins s σ H xs us Q I r h;obtain ⟨x, T, T1, b, rfl, ty, e, q⟩ := h;obtain ⟨u, v, rfl, rx, ry⟩ := Vals.two r;cases ry;exact zff I rx ty ((zgb X.K T1 T).trans e) fun tk => ⟨.bl b, H, I.tok _, rfl, q⟩
theorem vy {x : Str} {T : String} {pos : Pos} (hg : Gl X x) (hm : X.mg x = none) (hv : bootBuiltins x = some (.type T)) (hn : x ≠ "__name__" := by decide) (hd : (x == ("__debug__" : Str)) = false := by decide) : PE X (.Name x pos) (tC (.ty T)) :=
  zg9 hg hm hv rfl hn hd
end
theorem ye : bootBuiltins "len" = some (.builtin "len") := by decide +kernel
theorem yg : bootBuiltins "isinstance" = some (.builtin "isinstance") := by decide +kernel
theorem zfk : bootBuiltins "max" = some (.builtin "max") := by decide +kernel
theorem bv : bootBuiltins "min" = some (.builtin "min") := by decide +kernel
theorem jn : bootBuiltins "all" = some (.builtin "all") := by decide +kernel
theorem bt_abs : bootBuiltins "abs" = some (.builtin "abs") := by decide +kernel
theorem bf : bootBuiltins "int" = some (.type "int") := by decide +kernel
theorem zcf : bootBuiltins "bool" = some (.type "bool") := by decide +kernel
theorem uo : bootBuiltins "list" = some (.type "list") := by decide +kernel
theorem sj : bootBuiltins "tuple" = some (.type "tuple") := by decide +kernel
theorem bt_str : bootBuiltins "str" = some (.type "str") := by decide +kernel
theorem bt_set : bootBuiltins "set" = some (.type "set") := by decide +kernel
theorem bt_zip : bootBuiltins "zip" = some (.type "zip") := by decide +kernel
theorem ag : bootBuiltins "enumerate" = some (.type "enumerate") := by decide +kernel
structure zf (K : Fg) (mg : Str -> Option Value) (name : Str) (st : Stmt) (ps : List Str) : Prop where
  ex : ∃ f fd, mg name = some (.ref f) /\ Fun K name name st f fd /\ Binds K fd ps []
structure FnAt (P : Program) (w : World) (K : Fg) (mg : Str -> Option Value) (base : Heap) (name : Str) (k : Nat) (ps : List Str) (sp : Sp) : Prop where
  ex : ∃ f fd, mg name = some (.ref f) /\ PySem.W.keepIn K (.ref f) = true /\ Binds K fd ps [] /\ FnOk P w K mg base CX0 k f fd ps sp
theorem FnAt.of {P : Program} {w : World} {K : Fg} {mg : Str -> Option Value} {base : Heap} {name : Str} {st : Stmt} {N ps : List Str} {k : Nat} {sp : Sp} (D : zf K mg name st ps) (S : zp N ps (zk st)) (len : ∀ vs H Q E, sp vs H Q E -> vs.length = ps.length)
    (hbody : ∀ (f : Addr) (cdv : Value) (A : Around) (outer : List Env) (s : Shared) (H : Hp) (vs : List V) (Q : VK) (E : XK), Room k (A.deeper (envOfC name (zk st) s.heap.objs.size f cdv)) -> sp vs H Q E ->
      ∃ t, PSs (cxOf CX0 P w K mg base N name (zk st) f cdv A outer s H E).nox (yx st) t /\ t { nx := fun _ H' => Q .non H', rt := Q } (zt N vs) H) : FnAt P w K mg base name (k + 1) ps sp := by
  obtain ⟨f, fd, hm, F, hb⟩ := D.ex;exact ⟨f, fd, hm, F.kp, hb, F.ok S len (hbody f)⟩
theorem def_mk {K : Fg} {h : Heap} {mg : Str -> Option Value} (X : K.In h) (G : h.Ns mainGlobals mg) {name : Str} {st : Stmt} {f : Addr} {oc : Value} {od an : Option Addr} {osl : Array (Option Value)} {kV doc pm cdv ct : Value} {ps : List Str}
    (a : PySem.W.nsIn K mainGlobals name = some (some (.ref f))) (l : K.lookup f = some ⟨oc, od, .func (PySem.W.fnOf name name (ur st) (yx st) (zk st) .none kV doc pm an cdv ct), osl⟩)
    (c : PySem.W.codeIn K cdv name = true) (k : PySem.W.keepIn K (.ref f) = true)
    (hb : ∀ (kV doc pm : Value) (an : Option Addr) (cdv ct : Value) (us : List Value), us.length = ps.length -> bindArgs (PySem.W.fnOf name name (ur st) (yx st) (zk st) .none kV doc pm an cdv ct) ⟨us, []⟩ = pure (ps.zip us)) : zf K mg name st ps :=
  ⟨f, _, PySem.W.mg_of X G a, ze2 l c k, (ze2 (st := st) l c k).binds hb⟩
section
variable {X : Cx} {x : Str} {k : Nat} {ps : List Str} {sp : Sp} {p pos : Pos} {e : Expr} {es : List Expr} {t : TA}
theorem zj (F : FnAt X.prog X.w X.K X.mg X.base x k ps sp) (hr : Room k X.A) (hg : Gl X x) (ha : PA X (e :: es) t) (hdb : (x == ("__debug__" : Str)) = false := by decide) (he : starEach (e :: es) X.env = (false, eval e X.env) :: starEach es X.env := by rfl)
    (hpl : (backTo pos (starEach es X.env)).any (·.1) = false := by rfl) : PE X (.Call (.Name x p) (e :: es) [] pos) (cq sp [] E0 t) := by
  obtain ⟨f, fd, hm, hk, hb, G⟩ := F.ex;exact zb4 G hr hg hm hk hb .nil pass0 ha hdb he hpl
end
theorem cxK {CX : CXT} {P : Program} {w : World} {K : Fg} {mg : Str -> Option Value} {base : Heap} {N : List Str} {qual : Str} {scope : Scope} {f : Addr} {cd : Value} {A : Around} {outer : List Env} {s : Shared} {H : Hp} {E : XK} : (cxOf CX P w K mg base N qual scope f cd A outer s H E).K = K := rfl
section
variable {D : Ends} {σ : St} {H : Hp} {Q : VK} {QT : Bool -> Hp -> Prop} {QA : List V -> Hp -> Prop} {QS : St -> Hp -> Prop} {R : It -> Hp -> Prop} {a b c : TE} {s t : TS} {tt uu : TT} {ta tr : TA} {g : TG} {i : Nat} {v x y z : V} {r r' : R2} {wi : TI}
theorem e_var : tVar i σ H Q = ∃ v, σ[i]? = some (some v) /\ Q v H := rfl
theorem e_C : tC v σ H Q = Q v H := rfl
theorem e_op : tOp r a b σ H Q = a σ H fun x H1 => b σ H1 fun y H2 => r x y H2 Q := rfl
theorem e_un {u : V -> Hp -> VK -> Prop} : tUn u a σ H Q = a σ H fun x H1 => u x H1 Q := rfl
theorem e_rI {C : Int -> Int -> Prop} {f : Int -> Int -> V} : rI C f x y H Q = ∃ i j, x = .int i /\ y = .int j /\ C i j /\ Q (f i j) H := rfl
theorem e_rI0 {f : Int -> Int -> V} : rI0 f x y H Q = ∃ i j, x = .int i /\ y = .int j /\ Q (f i j) H := rfl
theorem e_rU {f : Int -> V} : rU f x H Q = ∃ i, x = .int i /\ Q (f i) H := rfl
theorem e_rEq : rEq x y H Q = (scal x y = true /\ Q (.bl (decide (x = y))) H) := rfl
theorem e_rNe : rNe x y H Q = (scal x y = true /\ Q (.bl (!decide (x = y))) H) := rfl
theorem e_ixL {K : Fg} : rIxL K x y H Q = ∃ p xs i v, x = .ref p /\ y = .int i /\ SqL K H p xs /\ atI xs i = some v /\ Q v H := rfl
theorem e_ixT {K : Fg} : rIxT K x y H Q = ∃ p xs i v, x = .ref p /\ y = .int i /\ SqT K H p xs /\ atI xs i = some v /\ Q v H := rfl
theorem e_set {o i v : V} {Q : Hp -> Prop} : rSetL o i v H Q = ∃ p xs k j, o = .ref p /\ i = .int k /\ H p = some (.lst xs) /\ ixN xs.length k = some j /\ Q (upd H p (.lst (xs.set j v))) := rfl
theorem e_cat : rCat x y H Q = ∃ l b xs zs, x = .ref l /\ y = .ref b /\ H l = some (.lst xs) /\ H b = some (.lst zs) /\ xs.length + zs.length <= sizeLine /\ ∀ p, H p = none -> Q (.ref p) (upd H p (.lst (xs ++ zs))) := rfl
theorem e_test : zc9 a σ H QT = a σ H fun x H' => ∃ k, x = .bl k /\ QT k H' := rfl
theorem e_B : tB a σ H QT = a σ H fun x H1 => ∃ c, x = .bl c /\ QT c H1 := rfl
theorem e_and : tAnd tt uu σ H QT = tt σ H fun c H1 => if c = true then uu σ H1 QT else QT false H1 := rfl
theorem e_or : tOr tt uu σ H QT = tt σ H fun c H1 => if c = true then QT true H1 else uu σ H1 QT := rfl
theorem e_not : tNot tt σ H QT = tt σ H fun c H1 => QT (!c) H1 := rfl
theorem e_andV : tAndV a b σ H Q = a σ H fun x H1 => ∃ c, x = .bl c /\ if c = true then b σ H1 Q else Q (.bl false) H1 := rfl
theorem e_orV : tOrV a b σ H Q = a σ H fun x H1 => ∃ c, x = .bl c /\ if c = true then Q (.bl true) H1 else b σ H1 Q := rfl
theorem e_notV : tNotV a σ H Q = a σ H fun x H1 => ∃ c, x = .bl c /\ Q (.bl (!c)) H1 := rfl
theorem e_ifE : tIf tt a b σ H Q = tt σ H fun c H1 => if c = true then a σ H1 Q else b σ H1 Q := rfl
theorem e_all : tAll σ H QT = QT true H := rfl
theorem e_next : tNext D σ H = D.nx σ H := rfl
theorem e_seq : tSeq s t D σ H = s { D with nx := t D } σ H := rfl
theorem e_brk : tBreak D σ H = D.bk σ H := rfl
theorem e_cnt : tCont D σ H = D.ct σ H := rfl
theorem e_drop : tDrop a D σ H = a σ H fun _ H1 => D.nx σ H1 := rfl
theorem e_ret : tRet a D σ H = a σ H D.rt := rfl
theorem e_retN : tRetN D σ H = D.rt .non H := rfl
theorem e_ifS : tIfS tt s t D σ H = tt σ H fun b H1 => if b = true then s D σ H1 else t D σ H1 := rfl
theorem e_asg : tAsg a g D σ H = a σ H fun x H1 => g x σ H1 D.nx := rfl
theorem zcj : zcy i v σ H QS = QS (σ.set i (some v)) H := rfl
theorem e_setC : tSetC i a D σ H = a σ H fun x H1 => D.nx (σ.set i (some x)) H1 := rfl
theorem e_augS {tget : V -> V -> Hp -> VK -> Prop} {tip : TIp} {tset : TSet} : tAugS a b c tget tip tset D σ H = a σ H fun o H1 => b σ H1 fun i H2 => tget o i H2 fun x H3 => c σ H3 fun y H4 => tip x y H4 fun z H5 => tset o i z H5 fun H6 => D.nx σ H6 := rfl
theorem e_ipI {f : Int -> Int -> Int} : ipI f x y H Q = ∃ i j, x = .int i /\ y = .int j /\ Q (.int (f i j)) H := rfl
theorem e_nil : tNil σ H QA = QA [] H := rfl
theorem e_cons : zc4 a ta σ H QA = a σ H fun x H1 => ta σ H1 fun xs H2 => QA (x :: xs) H2 := rfl
theorem e_tup : tTup ta σ H Q = ta σ H fun xs H1 => xs.length <= sizeLine /\ ∀ p, H1 p = none -> Q (.ref p) (upd H1 p (.tup xs)) := rfl
theorem e_lst : tLst ta σ H Q = ta σ H fun xs H1 => xs.length <= sizeLine /\ ∀ p, H1 p = none -> Q (.ref p) (upd H1 p (.lst xs)) := rfl
theorem e_call {sp : Sp} {E : XK} : cq sp [] E ta σ H Q = ta σ H fun vs H1 => sp (vs ++ []) H1 Q E := rfl
theorem e_CB {u : List V -> Hp -> VK -> Prop} : tCB u ta σ H Q = ta σ H fun vs H1 => u vs H1 Q := rfl
theorem e_BM {K : Fg} {T : String} {u : V -> List V -> Hp -> VK -> Prop} : tBM K T u a ta σ H Q = a σ H fun x H1 => tyV K T x H1 /\ ta σ H1 fun xs H2 => u x xs H2 Q := rfl
theorem e_app {vs : List V} : zbp x vs H Q = ∃ l xs y, x = .ref l /\ vs = [y] /\ H l = some (.lst xs) /\ xs.length < sizeLine /\ Q .non (upd H l (.lst (xs ++ [y]))) := rfl
theorem e_rng1 : iRng1 ta σ H R = ta σ H fun vs H1 => ∃ j : Int, vs = [.int j] /\ -(2 ^ 62) <= j /\ j < 2 ^ 62 /\ R (Itr 0 j.toNat) H1 := rfl
theorem e_rng2 : iRng2 ta σ H R = ta σ H fun vs H1 => ∃ i j : Int, vs = [.int i, .int j] /\ (-(2 ^ 62) <= i /\ i < 2 ^ 62 /\ -(2 ^ 62) <= j /\ j < 2 ^ 62) /\ R (Itr i (j - i).toNat) H1 := rfl
theorem e_iL {K : Fg} : iList K a σ H R = a σ H fun x H1 => ∃ p, x = .ref p /\ (∃ xs, SqL K H1 p xs) /\ R (Itl K p) H1 := rfl
def ForW (J : It) (g : TG) (tb : TS) (D : Ends) (σ : St) (H1 : Hp) : Prop := ∃ W : Nat -> Nat -> St -> Hp -> Prop, (∃ m, W 0 m σ H1) /\ ∀ i m σ H, W i m σ H ->
  (J.stop i H /\ D.nx σ H) \/ (J.go i H /\ ∃ N : St -> Hp -> Prop, (∀ σ' H', N σ' H' -> ∃ m', m' < m /\ W (i + 1) m' σ' H') /\ ∀ x H', J.yld i H x H' -> g x σ H' fun σ2 H2 => tb { D with nx := N, ct := N, bk := D.nx } σ2 H2)
theorem e_for : tFor wi g t D σ H = wi σ H fun J H1 => ForW J g t D σ H1 := rfl
theorem e_comp {k : Nat} {g : Dyn -> TG} {tt : Dyn -> TT} {te : Dyn -> TE} : cp k wi g tt te σ H Q = wi σ H fun J H1 => ∀ d : Dyn, rb J σ k (g d) (tt d) (te d) H1 fun ys H' => ∀ l, H' l = none -> Q (.ref l) (upd H' l (.lst ys)) := rfl
end
end L2
namespace L2
open PySem PySem.Spec PyProof.Rows
section
variable {X : Cx}
theorem qj (hc : X.calm = true) : xt X (.builtin "all") (fun xs H Q => ∃ (p : Addr) (bs : List Bool), xs = [.ref p] /\ SqL X.K H p (bs.map V.bl) /\ Q (.bl (bs.all id)) H) := by
  intro pins s σ H xs us Q I r h;obtain ⟨p, bs, rfl, hq, q⟩ := h;obtain ⟨u, rfl, rx⟩ := Vals.one r;cases rx;obtain ⟨its, rv, pl, hz⟩ := I.list hq;have hlt : p < s.heap.objs.size := by obtain ⟨_, e, _⟩ := pl.isList; exact Heap.lt_size e
  have hlen : its.length = bs.length := by have := rv.length; rw [Za] at this; exact this.symm
  refine call_all_walk (wpAny_pyIter_list pl.isList ?_)
  refine ⟨s.heap.objs.size, [s.heap.objs.size, p], [s.heap.objs.size], its.toArray.size, _, _, fun i => (bs[i]?).getD true, rfl, Walks.list (A := X.A.in1) (I.ok.hd hc) _ p (Zs hlt) its.toArray,
    ⟨⟨_, Heap.get?_push_size _ rfl, rfl, rfl⟩, pl.isList.push _⟩, fun i v s' Q' E' hP hQ => ?_, fun h' tk hk => ?_⟩
  . have hi : its[i]? = some v := by simpa using hP
    have hil : i < bs.length := by rw [<- hlen]; exact (Zc.mp hi).1
    have e : bs[i]? = some bs[i] := by simp [hil]
    obtain ⟨u, hu, ru⟩ := rv.get (i := i) (x := V.bl bs[i]) (by rw [Ze, e]; rfl);rw [hi] at hu;cases hu;cases ru;simp only [e, Option.getD_some] at hQ;exact wpAny_truthy_bool hQ
  . have e : ((List.range its.toArray.size).all fun i => (bs[i]?).getD true) = bs.all id := by
      rw [Zr, hlen];rw [Bool.eq_iff_iff, ZP, ZP]
      constructor
      . intro z b hb
        obtain ⟨i, hi, rfl⟩ := Zy hb;have := z i (ZW.mpr hi)
        simpa [Zb hi] using this
      . intro z i hi
        have hi' := ZW.mp hi;simp only [Zb hi', Option.getD_some];exact z _ (Zl hi')
    rw [e];exact ⟨.bl (bs.all id), H, I.kept fun b x e => hk b x (fun hm => by rw [ZC.mp hm] at e; exact ZJ _ (Heap.lt_size e)) (Heap.get?_push_of_some _ e), rfl, q⟩
end
def Itz (K : Fg) (a b : Addr) : It :=
  ⟨fun i H => ∃ xs ys x y, SqL K H a xs /\ SqL K H b ys /\ xs[i]? = some x /\ ys[i]? = some y,
   fun i H v H' => ∃ T x y, v = .ref T /\ H T = none /\ H' = upd H T (.tup [x, y]) /\ ∀ xs ys, SqL K H a xs -> SqL K H b ys -> xs[i]? = some x /\ ys[i]? = some y,
   fun i H => ∃ xs ys, SqL K H a xs /\ SqL K H b ys /\ (xs.length <= i \/ ys.length <= i)⟩
structure ae (z TI TO i1 i2 : Addr) : Prop where
  TIz : TI ≠ z
  TOz : TO ≠ z
  i1z : i1 ≠ z
  i2z : i2 ≠ z
  TITO : TI ≠ TO
  TIi1 : TI ≠ i1
  TIi2 : TI ≠ i2
  TOi1 : TO ≠ i1
  TOi2 : TO ≠ i2
  i12 : i1 ≠ i2
def tnZip (z TI TO i1 i2 l1 l2 : Addr) (i : Nat) (h : Heap) : Prop := IsZip h z TI TO .none /\ IsPair h TI (.ref i1) (.ref i2) /\ (∃ a b, IsPair h TO a b) /\ h.IsListIter i1 l1 i /\ h.IsListIter i2 l2 i
theorem dl {z TI TO i1 i2 l1 l2 : Addr} {i : Nat} {h : Heap} {xs ys : Array Value} (D : ae z TI TO i1 i2) (t : tnZip z TI TO i1 i2 l1 l2 i h) (h1 : h.IsList l1 xs) (h2 : h.IsList l2 ys) : ZipApart z TI TO i1 i2 l1 l2 := by
  obtain ⟨hz, hTI, ⟨a, b, hTO⟩, k1, k2⟩ := t
  have n1 : ∀ {l : Addr} {ws : Array Value}, h.IsList l ws -> l ≠ z := fun {l ws} q e => by
    obtain ⟨o, e1, c, _⟩ := q;subst e;rw [hz] at e1; cases e1; simp at c
  have n2 : ∀ {l : Addr} {ws : Array Value}, h.IsList l ws -> l ≠ TO := fun {l ws} q e => by
    obtain ⟨o, e1, c, _⟩ := q;subst e;rw [hTO] at e1; cases e1; simp at c
  have n3 : ∀ {l j l' : Addr} {k : Nat} {ws : Array Value}, h.IsListIter j l' k -> h.IsList l ws -> l ≠ j := fun {l j l' k ws} k1 q e => by
    obtain ⟨o, e1, c, _⟩ := q;obtain ⟨o', e1', c', _⟩ := k1;subst e;rw [e1'] at e1; cases e1; rw [c'] at c; simp at c
  exact ⟨D.TIz, D.TOz, D.i1z, D.i2z, D.TITO, D.TIi1, D.TIi2, D.TOi1, D.TOi2, D.i12, n1 h1, n2 h1, n3 k1 h1, n3 k2 h1, n1 h2, n2 h2, n3 k1 h2, n3 k2 h2⟩
theorem Inv.turnedLaid {X : Cx} {pins : List (Addr × Obj)} {σ : St} {H : Hp} {s : Shared} {h' : Heap} {t' : Nat} {ch : List Addr} {T : Addr} {o : HO} (I : Inv X pins σ H s) (hf : ∀ b ∈ ch, FpOk X pins H b)
    (k : ∀ b o, b ∉ ch -> s.heap.get? b = some o -> h'.get? b = some o) (hT : s.heap.objs.size <= T) (new : ObjOk X.prog X.w (upd H T o) h' T o) : Inv X pins σ (upd H T o) { s with heap := h', toks := t' } := by
  have nch : ∀ b u, H b = some u -> b ∉ ch := fun b u e z => by rw [(hf b z).1] at e; cases e
  have nT : ∀ b u, H b = some u -> b ≠ T := fun b u e => Zs (Zh (I.hok.lt e) hT)
  have nT' : ∀ b u, s.heap.get? b = some u -> b ≠ T := fun b u e => Zs (Zh (Heap.lt_size e) hT)
  refine I.step (g' := s.gens) (d' := s.drawn) (ch := ch) (fun b hb => ?_) (fun b o _ _ hc e _ => k b o hc e) (fun b o _ _ hc e _ => ⟨o.slots, k b o hc e⟩) (fun b o _ e n => by rw [zr (nT' b o e)]; exact n)
    (fun b o hc e => ⟨o, k b o hc e⟩) (fun b xs e => by rw [zr (nT b _ e)]; exact e) (fun b ob u e => by rw [zr (nT b _ e)]; exact e) (fun b ps e => ⟨#[], by rw [zr (nT b _ e), e]; simp⟩) (fun m hm => ?_) (fun b u e => ?_) I.bare
  . obtain ⟨f0, f1, f2, f3, f4, f5⟩ := hf b hb
    exact ⟨f3, f1, f4, f5⟩
  . obtain ⟨ob, es, ep, ho, r⟩ := hm
    exact ⟨ob, es, ep, k _ ob (fun z => (hf _ z).2.1 rfl) ho, r⟩
  . by_cases hb : b = T
    . subst hb
      rw [ze] at e;cases e;exact new
    . rw [zr hb] at e
      refine (I.hok b u e).stay (fun c v hc q => k c v ?_ q) (fun c q => by rw [zr (nT c _ q)]; exact q) fun c xs q => by rw [zr (nT c _ q)]; exact q
      rcases hc with z | z
      . rw [z]; exact nch b u e
      . exact nch c _ z
theorem zfv {P : Program} {w : World} {K : Fg} {elts : List Expr} {x1 : Nat} {pos : Pos} (z TI TO i1 i2 l1 l2 : Addr) (D : ae z TI TO i1 i2) :
    Turn P w K (.Tuple elts x1 pos) (Itz K l1 l2) [z, TI, TO, i1, i2] z (tnZip z TI TO i1 i2 l1 l2) where
  mem := by simp
  obj := fun i h st b hb => by
    obtain ⟨hz, hTI, ⟨a, b', hTO⟩, ⟨o1, e1, c1, d1⟩, ⟨o2, e2, c2, d2⟩⟩ := st;simp only [ZK, Zx, or_false] at hb
    rcases hb with rfl | rfl | rfl | rfl | rfl
    . exact ⟨_, hz, fun v q => by cases q⟩
    . exact ⟨_, hTI, fun v q => by cases q⟩
    . exact ⟨_, hTO, fun v q => by cases q⟩
    . exact ⟨o1, e1, fun v q => by rw [d1] at q; cases q⟩
    . exact ⟨o2, e2, fun v q => by rw [d2] at q; cases q⟩
  keep := fun i h h' st k => by
    obtain ⟨hz, hTI, ⟨a, b, hTO⟩, h1, h2⟩ := st;exact ⟨k z (by simp) _ hz, k TI (by simp) _ hTI, ⟨a, b, k TO (by simp) _ hTO⟩, h1.at fun o e => k i1 (by simp) o e, h2.at fun o e => k i2 (by simp) o e⟩
  item := by
    intro X hP hw hK hc i pins s σ H E I hf st hg;subst hP hw hK;obtain ⟨xs, ys, x, y, qa, qb, hx, hy⟩ := hg;obtain ⟨us, ru, pu, zu⟩ := I.list qa;obtain ⟨vs, rv, pv', zv⟩ := I.list qb;obtain ⟨u, hu, rxu⟩ := ru.get hx;obtain ⟨v, hv, ryv⟩ := rv.get hy;have A := dl D st pu.isList pv'.isList;obtain ⟨hz, hTI, ⟨a, b, hTO⟩, h1, h2⟩ := id st;refine wpAny_pyNext_zip_item A hz hTI hTO h1 h2 pu.isList pv'.isList (x := u) (y := v) (by simpa using hu) (by simpa using hv) fun h' a1 a2 a3 a4 a5 a6 hk => ?_
    have ltT : ∀ {c o}, s.heap.get? c = some o -> c ≠ s.heap.objs.size := fun e => Zs (Heap.lt_size e)
    refine ⟨_, rfl, wpAny_letOwnedTupleGo_zip (s := { s with heap := h' }) a1 fun h'' b1 sb => ?_⟩;have hTz : s.heap.objs.size ≠ z := Ne.symm (ltT hz)
    have hf4 : ∀ b ∈ [z, TO, i1, i2], FpOk X pins H b := fun b hb => hf b (by
      simp only [ZK, Zx, or_false] at hb ⊢
      rcases hb with h | h | h | h <;> simp [h])
    have I1 : Inv X pins σ (upd H s.heap.objs.size (.tup [x, y])) { s with heap := h'', toks := s.toks } := I.turnedLaid (ch := [z, TO, i1, i2]) hf4 (fun b o hb e => by
      simp only [ZK, Zx, or_false, not_or] at hb
      exact sb.extBut b o hb.1 (hk b o hb.1 hb.2.1 hb.2.2.1 hb.2.2.2 e)) (Zm _) ⟨by show 2 <= sizeLine; decide, [u, v], .cons rxu (.cons ryv .nil), by
        have e := sb.extBut _ _ hTz a5
        exact ⟨_, e, rfl, _, rfl, rfl⟩⟩
    refine ⟨.ref s.heap.objs.size, _, I1, rfl, ⟨s.heap.objs.size, x, y, rfl, I.hok.fresh (Zm _), rfl, fun xs' ys' q1 q2 => ?_⟩, ?_, fun b hb => ?_⟩
    . rw [I.list_inj q1 qa, I.list_inj q2 qb]
      exact ⟨hx, hy⟩
    . exact ⟨b1, sb.extBut _ _ A.TIz (hk _ _ A.TIz A.TITO A.TIi1 A.TIi2 hTI), ⟨_, _, sb.extBut _ _ A.TOz a2⟩, a3.extBut sb.extBut A.i1z, a4.extBut sb.extBut A.i2z⟩
    . have hb' := (hf b hb).1
      rw [zr ?_]
      . exact hb'
      . simp only [ZK, Zx, or_false] at hb
        rcases hb with rfl | rfl | rfl | rfl | rfl
        . exact ltT hz
        . exact ltT hTI
        . exact ltT hTO
        . obtain ⟨_, e, _⟩ := h1; exact ltT e
        . obtain ⟨_, e, _⟩ := h2; exact ltT e
  done := by
    intro X hP hw hK hc i pins s σ H E I hf st hg;subst hP hw hK;obtain ⟨xs, ys, qa, qb, hend⟩ := hg;obtain ⟨us, ru, pu, zu⟩ := I.list qa;obtain ⟨vs, rv, pv', zv⟩ := I.list qb;have A := dl D st pu.isList pv'.isList;obtain ⟨hz, hTI, ⟨a, b, hTO⟩, h1, h2⟩ := id st;have l1' := ru.length;have l2' := rv.length
    refine wpAny_pyNext_zip_end (I.ok.hd hc) A hz hTI hTO h1 h2 pu.isList pv'.isList (by
      rcases hend with h | h
      . left; simp; omega
      . right; simp; omega) fun h' hk => ⟨rfl, ?_⟩
    have nch : ∀ b u, H b = some u -> b ∉ [z, TO, i1, i2] := fun b u e q => by
      have := (hf b (by simp only [ZK, Zx, or_false] at q ⊢; rcases q with h | h | h | h <;> simp [h])).1;rw [this] at e; cases e
    have k : ∀ b o, b ∉ [z, TO, i1, i2] -> s.heap.get? b = some o -> h'.get? b = some o := fun b o hb e => by
      simp only [ZK, Zx, or_false, not_or] at hb;exact hk b o hb.1 hb.2.1 hb.2.2.1 hb.2.2.2 e
    have hf4 : ∀ b ∈ [z, TO, i1, i2], FpOk X pins H b := fun b hb => hf b (by
      simp only [ZK, Zx, or_false] at hb ⊢
      rcases hb with h | h | h | h <;> simp [h])
    exact I.step (g' := s.gens) (d' := s.drawn) (t' := s.toks) (ch := [z, TO, i1, i2]) (fun b hb => by
        obtain ⟨f0, f1, f2, f3, f4, f5⟩ := hf4 b hb
        exact ⟨f3, f1, f4, f5⟩) (fun b o _ _ hc e _ => k b o hc e) (fun b o _ _ hc e _ => ⟨o.slots, k b o hc e⟩) (fun b o _ e n => n)
      (fun b o hc e => ⟨o, k b o hc e⟩) (fun b xs e => e) (fun b ob u e => e) (fun b ps e => ⟨#[], by rw [e]; simp⟩) (fun m hm => by
        obtain ⟨ob, es, ep, ho, r⟩ := hm
        exact ⟨ob, es, ep, k _ ob (fun q => (hf4 _ q).2.1 rfl) ho, r⟩) (fun b u e => (I.hok b u e).stay (fun c v hc q => k c v (by
          rcases hc with r | r
          . rw [r]; exact nch b u e
          . exact nch c _ r) q) (fun _ q => q) fun _ _ q => q) I.bare
  self := fun _ _ _ _ _ st h => wpAny_pyIter_zip st.1 h
def iZip (K : Fg) (ta : TA) : TI := fun σ H R => ta σ H fun vs H1 => ∃ a b, vs = [.ref a, .ref b] /\ (∃ xs, SqL K H1 a xs) /\ (∃ ys, SqL K H1 b ys) /\ R (Itz K a b) H1
theorem pi_zip {X : Cx} {a b : Expr} {ta : TA} {p pos tpos : Pos} {elts : List Expr} {x1 : Nat} (hg : Gl X "zip") (hm : X.mg "zip" = none) (ha : PA X [a, b] ta) (hs : starEach [a, b] X.env = [(false, eval a X.env), (false, eval b X.env)] := by rfl) (hs2 : starEach [b] X.env = [(false, eval b X.env)] := by rfl) :
    PI X (.Tuple elts x1 tpos) (.Call (.Name "zip" p) [a, b] [] pos) (iZip X.K ta) := by
  intro pins s σ H R I h;refine Call_ (v5 I hg hm bt_zip (PyProof.Rows.callWith_type1 (thn (ha pos pins s σ H _ I h) fun us s1 ⟨vs, H1, I1, r1, q1⟩ => ?_) (by rw [hs, hs2]) (by rw [hs2]; rfl)));obtain ⟨a, b, e, ⟨xs, qa⟩, ⟨ys, qb⟩, q⟩ := q1;subst e;obtain ⟨u, v, rfl, ru, rv⟩ := Vals.two r1;cases ru; cases rv;obtain ⟨its, _, pa, _⟩ := I1.list qa;obtain ⟨jts, _, pb, _⟩ := I1.list qb;refine call_zip_2 pa.isList pb.isList fun h' z1 z2 z3 z4 z5 z6 kp => ?_
  refine wpAny_pyIter_zip (s := { s1 with heap := h' }) z1 ?_;have I2 : Inv X pins σ H1 { s1 with heap := h' } := I1.kept (t' := s1.toks) kp;have D : ae (s1.heap.objs.size + 4) (s1.heap.objs.size + 2) (s1.heap.objs.size + 3) s1.heap.objs.size (s1.heap.objs.size + 1) := by constructor <;> (show (_ : Nat) ≠ _; omega)
  refine ⟨s1.heap.objs.size + 4, [s1.heap.objs.size + 4, s1.heap.objs.size + 2, s1.heap.objs.size + 3, s1.heap.objs.size, s1.heap.objs.size + 1], _, _, H1, rfl, I2, zfv _ _ _ _ _ a b D, ⟨z1, z2, ⟨_, _, z3⟩, z4, z5⟩, fun c hc => ?_, q⟩
  have hle : s1.heap.objs.size <= c := by
    simp only [ZK, Zx, or_false] at hc
    rcases hc with h | h | h | h | h <;> (rw [h]; omega)
  exact I1.fpOk hle (I1.hok.fresh hle)
theorem e_zip {K : Fg} {ta : TA} {σ : St} {H : Hp} {R : It -> Hp -> Prop} : iZip K ta σ H R = ta σ H fun vs H1 => ∃ a b, vs = [.ref a, .ref b] /\ (∃ xs, SqL K H1 a xs) /\ (∃ ys, SqL K H1 b ys) /\ R (Itz K a b) H1 := rfl
theorem e_gTup {K : Fg} {n : Nat} {t : TGs} {v : V} {σ : St} {H : Hp} {Q : St -> Hp -> Prop} : gTup K n t v σ H Q = ∃ a xs, v = .ref a /\ SqT K H a xs /\ xs.length = n /\ t xs σ H Q := rfl
theorem e_gNil {vs : List V} {σ : St} {H : Hp} {Q : St -> Hp -> Prop} : gNil vs σ H Q = (vs = [] /\ Q σ H) := rfl
theorem zg7 {t : TG} {u : TGs} {vs : List V} {σ : St} {H : Hp} {Q : St -> Hp -> Prop} : gCons t u vs σ H Q = ∃ v r, vs = v :: r /\ t v σ H fun σ' H' => u r σ' H' Q := rfl
end L2
namespace L2
open PySem PySem.Spec PyProof.Rows
def eqVs : List V -> List V -> Bool
  | [], [] => true
  | x :: xs, y :: ys => eqV x y && eqVs xs ys
  | _, _ => false
theorem fb : ∀ {xs ys : List V}, xs.length = ys.length -> ((List.range xs.length).all fun j => eqV (xs.getD j .non) (ys.getD j .non)) = eqVs xs ys
  | [], [], _ => rfl
  | [], _ :: _, h => by simp at h
  | _ :: _, [], h => by simp at h
  | x :: xs, y :: ys, h => by
    have ih := @fb xs ys (by simpa using h);rw [ZL, List.range_succ_eq_map, List.all_cons, List.all_map]
    show (eqV x y && _) = (eqV x y && eqVs xs ys)
    rw [<- ih];rfl
theorem bx : ∀ {xs ys : List V}, xs.length ≠ ys.length -> eqVs xs ys = false
  | [], [], h => by simp at h
  | [], _ :: _, _ => rfl
  | _ :: _, [], _ => rfl
  | x :: xs, y :: ys, h => by
    have ih := @bx xs ys (by simpa using h);unfold eqVs;rw [ih, Bool.and_false]
theorem jl {xs : List V} (h : xs.all xr = true) {j : Nat} {x : V} (e : xs[j]? = some x) : xr x = true := ZP.mp h x (Zi e)
theorem aa {A : Around} {s : Shared} {us vs : List Value} {xs ys : List V} (hu : Vals xs us) (hv : Vals ys vs) (fx : xs.all xr = true) (fy : ys.all xr = true) :
    ∀ j (h1 : j < us.toArray.size) (h2 : j < vs.toArray.size), SeqAt.EqAt A s us.toArray[j] vs.toArray[j] (eqV (xs.getD j .non) (ys.getD j .non)) := by
  intro j h1 h2;have h1' : j < us.length := by simpa using h1
  have h2' : j < vs.length := by simpa using h2
  obtain ⟨x, ex, rx⟩ := kw hu h1';obtain ⟨y, ey, ry⟩ := kw hv h2';rw [List.getElem_toArray, List.getElem_toArray, Zk, Zk, ex, ey];exact zfb rx ry (jl fx ex) (jl fy ey)
section
variable {X : Cx}
theorem op_eqF (hu : X.A.units < cLine) : OpR X (compareOp .Eq) (fun x y H Q => ∃ (a b : Addr) (xs ys : List V), x = .ref a /\ y = .ref b /\ SqL X.K H a xs /\ SqL X.K H b ys /\ xs.all xr = true /\ ys.all xr = true /\ Q (.bl (eqVs xs ys)) H) := by
  intro pins s σ H x y v u Q I rx ry h;obtain ⟨a, b, xs, ys, rfl, rfl, ha, hb, fx, fy, q⟩ := h;cases rx; cases ry;obtain ⟨us, r1, p1, z1⟩ := I.list ha;obtain ⟨vs, r2, p2, z2⟩ := I.list hb;have l1 := r1.length;have l2 := r2.length
  by_cases hl : xs.length = ys.length
  . refine SeqAt.eq_listAt p1.isList p2.isList (by simp; omega) hu (aa (A := X.A.in1) (s := s) r1 r2 fx fy) ?_
    rw [Zr, <- l1, fb hl];exact ⟨.bl (eqVs xs ys), H, I, rfl, q⟩
  . refine SeqAt.eq_list_lengthsAt p1.isList p2.isList (by simp; omega) hu ?_
    rw [bx hl] at q;exact ⟨.bl false, H, I, rfl, q⟩
end
section
variable {X : Cx}
end
theorem e_gSub {to ti : TE} {t : TSet} {v : V} {σ : St} {H : Hp} {Q : St -> Hp -> Prop} : gSub to ti t v σ H Q = to σ H fun o H1 => ti σ H1 fun i H2 => t o i v H2 fun H3 => Q σ H3 := rfl
theorem e_rep {x y : V} {H : Hp} {Q : VK} : rRep x y H Q = ∃ l k xs, x = .ref l /\ y = .int k /\ H l = some (.lst xs) /\ -(2 ^ 63) <= k /\ k < 2 ^ 63 /\ xs.length * k.toNat <= sizeLine /\ ∀ p, H p = none -> Q (.ref p) (upd H p (.lst (List.replicate k.toNat xs).flatten)) := rfl
end L2
namespace L2
open PySem PySem.Spec PyProof.Rows
section
variable {σ : St} {k : Nat} {g : TG} {tt : TT} {te : TE} {H1 : Hp} {Fin : List V -> Hp -> Prop}
theorem zgn {K : Fg} {a b : Addr} {xs zs : List V} (Pv : Nat -> List V -> Hp -> Prop) (h0 : Pv 0 [] H1) (hz : ∀ i ys H, i <= min xs.length zs.length -> Pv i ys H -> ys.length <= sizeLine /\ SqL K H a xs /\ SqL K H b zs)
    (hs : ∀ i x z ys H T, xs[i]? = some x -> zs[i]? = some z -> H T = none -> Pv i ys H -> g (.ref T) (List.replicate k none ++ σ) (upd H T (.tup [x, z])) fun σ2 H2 => σ2.drop k = σ /\ tt σ2 H2 fun b H3 => if b = true then te σ2 H3 fun v H4 => Pv (i + 1) (ys ++ [v]) H4 else Pv (i + 1) ys H3)
    (hd : ∀ ys H, Pv (min xs.length zs.length) ys H -> Fin ys H) : rb (Itz K a b) σ k g tt te H1 Fin := by
  refine ⟨fun i m ys H => m = min xs.length zs.length - i /\ i <= min xs.length zs.length /\ Pv i ys H, ⟨min xs.length zs.length, by simp, ZE _, h0⟩, ?_⟩
  rintro i m ys H ⟨rfl, hi, p⟩
  obtain ⟨q0, qa, qb⟩ := hz i ys H hi p;refine ⟨q0, ?_⟩
  by_cases hlt : i < min xs.length zs.length
  . have h1 : i < xs.length := by omega
    have h2 : i < zs.length := by omega
    refine .inr ⟨⟨xs, zs, xs[i], zs[i], qa, qb, by simp [h1], by simp [h2]⟩, Pv (i + 1), fun ys' H' p' => ⟨min xs.length zs.length - (i + 1), by omega, rfl, hlt, p'⟩, fun x H' y => ?_⟩;obtain ⟨T, x', z', rfl, hT, rfl, hy⟩ := y;obtain ⟨e1, e2⟩ := hy xs zs qa qb;exact hs i x' z' ys _ T e1 e2 hT p
  . have e : i = min xs.length zs.length := by omega
    subst e;exact .inl ⟨⟨xs, zs, qa, qb, by omega⟩, hd ys H p⟩
end
theorem e_slL {K : Fg} {x : V} {lo hi : Option Int} {H : Hp} {Q : VK} : rSlL K x lo hi H Q = ∃ a xs, x = .ref a /\ SqL K H a xs /\ ∀ p, H p = none -> Q (.ref p) (upd H p (.lst (cutV xs lo hi))) := rfl
theorem e_tSl {r : V -> Option Int -> Option Int -> Hp -> VK -> Prop} {te : TE} {tl th : TO} {σ : St} {H : Hp} {Q : VK} : tSl r te tl th σ H Q = te σ H fun x H1 => tl σ H1 fun l H2 => th σ H2 fun u H3 => r x l u H3 Q := rfl
theorem zgo {σ : St} {H : Hp} {Q : Option Int -> Hp -> Prop} : zcb σ H Q = Q none H := rfl
theorem e_part {t : TE} {σ : St} {H : Hp} {Q : Option Int -> Hp -> Prop} : tPart t σ H Q = t σ H fun x H1 => ∃ i, x = .int i /\ Q (some i) H1 := rfl
end L2
namespace L2
open PySem PySem.Spec PyProof.Rows
section
variable {σ : St} {H : Hp} {Q : VK} {a b c : TE} {x : V} {vs : List V} {r r' : R2}
theorem e_BM0 {K : Fg} {T : String} {u : V -> List V -> Hp -> VK -> Prop} : tBM0 K T u a σ H Q = a σ H fun x H1 => tyV K T x H1 /\ u x [] H1 Q := rfl
theorem zha : ax r r' a b c σ H Q = a σ H fun x H1 => b σ H1 fun y H2 => r x y H2 fun z H3 => ∃ k, z = .bl k /\ (if k = true then c σ H3 fun w' H4 => r' y w' H4 Q else Q (.bl false) H3) := rfl
theorem zhi : tDNewK σ H Q = ∀ p, H p = none -> Q (.ref p) (upd H p (.dK [])) := rfl
theorem e_in {K : Fg} {neg : Bool} {y : V} : rIn K neg x y H Q = ∃ p xs, y = .ref p /\ (SqL K H p xs \/ SqT K H p xs) /\ xr x = true /\ xs.all xr = true /\ Q (.bl (if neg then !inV x xs else inV x xs)) H := rfl
end
theorem o9 {X : Cx} {x : Str} {i : Int} {pos : Pos} (hg : Gl X x) (hm : ∃ t, X.mg x = some (Value.int i t)) (hd : (x == ("__debug__" : Str)) = false := by decide) : PE X (.Name x pos) (tC (.int i)) := by
  obtain ⟨t, hm⟩ := hm;exact wm hg hm ⟨t, rfl⟩ hd
def Ite (K : Fg) (a : Addr) : It :=
  ⟨fun i H => ∃ xs x, SqL K H a xs /\ xs[i]? = some x,
   fun i H v H' => ∃ T x, v = .ref T /\ H T = none /\ H' = upd H T (.tup [.int i, x]) /\ ∀ xs, SqL K H a xs -> xs[i]? = some x,
   fun i H => ∃ xs, SqL K H a xs /\ xs.length <= i⟩
def tnEnum (e it l : Addr) (i : Nat) (h : Heap) : Prop := (∃ old, IsEnum h e it i old) /\ h.IsListIter it l i
theorem zd7 {P : Program} {w : World} {K : Fg} {elts : List Expr} {x1 : Nat} {pos : Pos} (e it l : Addr) (hne : e ≠ it) :
    Turn P w K (.Tuple elts x1 pos) (Ite K l) [e, it] e (tnEnum e it l) where
  mem := by simp
  obj := fun i h st b hb => by
    obtain ⟨⟨old, he⟩, ⟨o1, e1, c1, d1⟩⟩ := st;simp only [ZK, Zx, or_false] at hb
    rcases hb with rfl | rfl
    . exact ⟨_, he, fun v q => by cases q⟩
    . exact ⟨o1, e1, fun v q => by rw [d1] at q; cases q⟩
  keep := fun i h h' st k => by
    obtain ⟨⟨old, he⟩, h1⟩ := st;exact ⟨⟨old, k e (by simp) _ he⟩, h1.at fun o q => k it (by simp) o q⟩
  item := by
    intro X hP hw hK hc i pins s σ H E I hf st hg;subst hP hw hK;obtain ⟨xs, x, qa, hx⟩ := hg;obtain ⟨us, ru, pu, zu⟩ := I.list qa;obtain ⟨u, hu, rxu⟩ := ru.get hx;obtain ⟨⟨old, he⟩, h1⟩ := id st;refine wpAny_pyNext_enum_item he h1 pu.isList (x := u) (by simpa using hu) hne fun h' a1 a2 a3 a4 hk => ?_
    have ltT : ∀ {c o}, s.heap.get? c = some o -> c ≠ s.heap.objs.size := fun q => Zs (Heap.lt_size q)
    have hit1 : it ≠ s.heap.objs.size := by obtain ⟨_, q, _⟩ := h1; exact ltT q
    have hTe : s.heap.objs.size ≠ e := Ne.symm (ltT he);refine ⟨_, rfl, wpAny_letOwnedTupleGo_enum (s := { s with heap := h', toks := s.toks + 1 }) a1 fun h'' b1 sb => ?_⟩
    have I1 : Inv X pins σ (upd H s.heap.objs.size (.tup [.int i, x])) { s with heap := h'', toks := s.toks + 1 } := I.turnedLaid (ch := [e, it]) hf (fun b o hb q => by
      simp only [ZK, Zx, or_false, not_or] at hb
      exact sb.extBut b o hb.1 (hk b o hb.1 hb.2 q)) (Zm _) ⟨by show 2 <= sizeLine; decide, [.int i s.toks, u], .cons ⟨_, rfl⟩ (.cons rxu .nil), by
        have q := sb.extBut _ _ hTe a3
        exact ⟨_, q, rfl, _, rfl, rfl⟩⟩
    refine ⟨.ref s.heap.objs.size, _, I1, rfl, ⟨s.heap.objs.size, x, rfl, I.hok.fresh (Zm _), rfl, fun xs' q1 => ?_⟩, ?_, fun b hb => ?_⟩
    . rw [I.list_inj q1 qa]
      exact hx
    . refine ⟨⟨u, ?_⟩, a2.extBut sb.extBut (Ne.symm hne)⟩
      have z : ((i + 1 : Nat) : Int) = (i : Int) + 1 := by omega
      rw [z];exact b1
    . have hb' := (hf b hb).1
      rw [zr ?_]
      . exact hb'
      . simp only [ZK, Zx, or_false] at hb
        rcases hb with rfl | rfl
        . exact Ne.symm hTe
        . exact hit1
  done := by
    intro X hP hw hK hc i pins s σ H E I hf st hg;subst hP hw hK;obtain ⟨xs, qa, hend⟩ := hg;obtain ⟨us, ru, pu, zu⟩ := I.list qa;obtain ⟨⟨old, he⟩, h1⟩ := id st;have l1' := ru.length;obtain ⟨f0, f1, f2, f3, f4, f5⟩ := hf it (by simp);exact wpAny_pyNext_enum_end (I.ok.hd hc) he h1 pu.isList (by simp; omega) fun h' eb => ⟨rfl, I.turned (t' := s.toks) (fun b o hb q => eb b o hb q) f0 f1 f3 f4 f5⟩
  self := fun _ _ _ _ _ st h => by
    obtain ⟨⟨old, he⟩, _⟩ := st;exact wpAny_pyIter_enum he h
def iEnum (K : Fg) (ta : TA) : TI := fun σ H R => ta σ H fun vs H1 => ∃ a, vs = [.ref a] /\ (∃ xs, SqL K H1 a xs) /\ R (Ite K a) H1
theorem e_enum {K : Fg} {ta : TA} {σ : St} {H : Hp} {R : It -> Hp -> Prop} : iEnum K ta σ H R = ta σ H fun vs H1 => ∃ a, vs = [.ref a] /\ (∃ xs, SqL K H1 a xs) /\ R (Ite K a) H1 := rfl
theorem jb {X : Cx} {a : Expr} {ta : TA} {p pos tpos : Pos} {elts : List Expr} {x1 : Nat} (hg : Gl X "enumerate") (hm : X.mg "enumerate" = none) (ha : PA X [a] ta) (hs : starEach [a] X.env = [(false, eval a X.env)] := by rfl) :
    PI X (.Tuple elts x1 tpos) (.Call (.Name "enumerate" p) [a] [] pos) (iEnum X.K ta) := by
  intro pins s σ H R I h;refine Call_ (v5 I hg hm ag (PyProof.Rows.callWith_type1 (thn (ha pos pins s σ H _ I h) fun us s1 ⟨vs, H1, I1, r1, q1⟩ => ?_) hs rfl));obtain ⟨a, e, ⟨xs, qa⟩, q⟩ := q1;subst e;obtain ⟨u, rfl, ru⟩ := Vals.one r1;cases ru;obtain ⟨its, _, pa, _⟩ := I1.list qa;refine call_enumerate_list pa.isList fun h' z1 z2 z3 kp => ?_
  refine wpAny_pyIter_enum (s := { s1 with heap := h' }) z1 ?_;have I2 : Inv X pins σ H1 { s1 with heap := h' } := I1.kept (t' := s1.toks) kp;refine ⟨s1.heap.objs.size + 1, [s1.heap.objs.size + 1, s1.heap.objs.size], _, _, H1, rfl, I2, zd7 _ _ a (by show (_ : Nat) ≠ _; omega), ⟨⟨_, z1⟩, z2⟩, fun c hc => ?_, q⟩
  have hle : s1.heap.objs.size <= c := by
    simp only [ZK, Zx, or_false] at hc
    rcases hc with h | h <;> (rw [h]; omega)
  exact I1.fpOk hle (I1.hok.fresh hle)
theorem zgj {K : Fg} {a : Addr} {xs : List V} {g : TG} {tb : TS} {D : Ends} {σ : St} {H : Hp} (Pv : Nat -> St -> Hp -> Prop) (h0 : Pv 0 σ H) (hl : ∀ i σ H, i <= xs.length -> Pv i σ H -> SqL K H a xs)
    (hs : ∀ i x σ H T, xs[i]? = some x -> H T = none -> Pv i σ H -> g (.ref T) σ (upd H T (.tup [.int i, x])) fun σ2 H2 => tb { D with nx := Pv (i + 1), ct := Pv (i + 1), bk := D.nx } σ2 H2)
    (hd : ∀ σ H, Pv xs.length σ H -> D.nx σ H) : ForW (Ite K a) g tb D σ H := by
  refine ⟨fun i m σ H => m = xs.length - i /\ i <= xs.length /\ Pv i σ H, ⟨xs.length, by simp, ZE _, h0⟩, ?_⟩
  rintro i m σ H ⟨rfl, hi, p⟩
  have q := hl i σ H hi p
  by_cases hlt : i < xs.length
  . refine .inr ⟨⟨xs, xs[i], q, by simp [hlt]⟩, Pv (i + 1), fun σ' H' p' => ⟨xs.length - (i + 1), by omega, rfl, hlt, p'⟩, fun x H' y => ?_⟩
    obtain ⟨T, x', rfl, hT, rfl, hy⟩ := y;exact hs i x' σ _ T (hy xs q) hT p
  . have e : i = xs.length := by omega
    subst e;exact .inl ⟨⟨xs, q, Zm _⟩, hd σ H p⟩
section
variable {X : Cx}
end
section
variable {X : Cx}
end
end L2
namespace L2
open PySem PySem.Spec PyProof.Rows
section
variable {X : Cx} {pins : List (Addr × Obj)} {σ : St} {H : Hp} {k : Nat} {f : Addr} {fd : FuncData} {ps : List Str} {sp : Sp}
theorem av {s : Shared} {fp : List Addr} {x : V} {u : Value} {n : Int} {Q : Value -> Shared -> Prop} {E : Value -> Shared -> Prop} (F : FnOk X.prog X.w X.K X.mg X.base CX0 k f fd ps sp) (hb : Binds X.K fd ps []) (hr : Room k X.A.in1)
    (I : Inv X pins σ H s) (hf : ∀ b ∈ fp, FpOk X pins H b) (ho : ∀ b ∈ fp, ∃ o, s.heap.get? b = some o /\ ∀ v, o.data ≠ .cell v) (rx : RelV x u)
    (h : sp [x] H (fun v H' => v = .int n /\ H' = H) E0)
    (q : ∀ t s', Inv X pins σ H s' -> (∀ b ∈ fp, ∀ o, s.heap.get? b = some o -> s'.heap.get? b = some o) -> Q (.int n t) s') :
    wpAny (model X.prog X.w) X.A.in1 (call (.ref f) [u]) Q E s := by
  have I1 := I.pinned hf ho;have hl : [u].length = ps.length := F.len [x] _ _ _ h;refine wpAny_call (codeAny_mono (F.run X.A.in1 X.stack s H ⟨[u], []⟩ [u] [x] _ E0 hr I1.env0.in1 (hb s [u] I.kIn hl) (.cons rx .nil) h) fun r s' hq => ?_)
  cases r with
  | error e => exact hq.elim
  | ok fl =>
    cases fl with
    | ret u' =>
      obtain ⟨v, H', I2, rv, e1, e2⟩ := I1.after hq;subst e1 e2;obtain ⟨t, rfl⟩ := rv;refine q t s' I2.unpinned fun b hb o e => ?_
      exact (I2.pin (b, o) (Zu _ (Zu _ (wt hb e)))).1
    | next => exact False.elim hq
    | brk => exact False.elim hq
    | cont => exact False.elim hq
theorem Inv.turned1 {s : Shared} {h' : Heap} {it : Addr} {t' : Nat} (I : Inv X pins σ H s) (hf : FpOk X pins H it) (k : ∀ b o, b ≠ it -> s.heap.get? b = some o -> h'.get? b = some o) : Inv X pins σ H { s with heap := h', toks := t' } := by
  obtain ⟨f0, f1, f2, f3, f4, f5⟩ := hf;exact I.turned k f0 f1 f3 f4 f5
theorem zfo (kf : Nat -> Int) {l I0 S : Addr} {xs : List V} {R : Result -> Shared -> Prop} (hc : X.calm = true) (F : FnOk X.prog X.w X.K X.mg X.base CX0 k f fd ps sp) (hb : Binds X.K fd ps []) (hr : Room k X.A.in1)
    (hlI : l ≠ I0) (hlS : l ≠ S) (hSI : S ≠ I0) (hl : SqL X.K H l xs) (fS : FpOk X pins H S) (fI : FpOk X pins H I0)
    (turn : ∀ i x, xs[i]? = some x -> sp [x] H (fun v H' => v = .int (kf i) /\ H' = H) E0)
    (hR : ∀ i x u s', xs[i]? = some x -> RelV x u -> (∀ j, j < xs.length -> kf i <= kf j /\ (j < i -> kf i < kf j)) -> Inv X pins σ H s' -> R (.ok (.ret u)) s') :
    ∀ (r j i : Nat) (s : Shared) (x : V) (vb : Value) (tb : Tok) (c : Nat), xs.length - (j + 1) = r -> j + 1 <= xs.length -> Inv X pins σ H s -> s.heap.get? S = some (seqObj "list" #[vb, .int (kf i) tb] c) ->
      s.heap.IsListIter I0 l (j + 1) -> xs[i]? = some x -> RelV x vb -> i <= j -> (∀ j', j' <= j -> kf i <= kf j' /\ (j' < i -> kf i < kf j')) ->
      codeAny (model X.prog X.w) X.A (.builtin "min.loop" ⟨[.ref I0, .ref f, .ref S], []⟩) R s := by
  have hname : (toString "min" ++ toString ".loop" : String) = "min.loop" := by decide
  intro r
  induction r with
  | zero =>
    intro j i s x vb tb c hr' hj I hS hit hx rx hij hbest;have hin : j + 1 = xs.length := by omega
    obtain ⟨its, rv, pl, hz⟩ := I.list hl;have hlen := rv.length;have W := Walks.list (prog := X.prog) (w := X.w) (A := X.A.in1) (I.ok.hd hc) I0 l hlI its.toArray;refine codeAny_builtin PySem.F.entry_min_loop ?_;rw [Around.under_plainId PySem.F.plain_min_loop _]
    show wpAny _ X.A.in1 (seqItems? (.ref S) >>= _) _ _ _
    refine wpAny_bind (wpAny_seqItems hS rfl ?_)
    show wpAny _ X.A.in1 (tryCatch (pyNext (.ref I0)) _ >>= _) _ _ _
    refine wpAny_bind (wpAny_tryCatch (W.done _ _ _ ⟨by rw [Zr, <- hlen, <- hin]; exact hit, pl.isList⟩ fun h' tk' hk' => ?_));have I1 : Inv X pins σ H { s with heap := h', toks := tk' } := I.turned1 fI fun b o hb e => hk' b o (by simpa using hb) e
    have hS' := hk' S _ (by simpa using hSI) hS;have s1 := Heap.SameBut.update h' S (Obj.mapSeq fun _ => (#[] : Array Value))
    show wpAny _ X.A.in1 (updateSeq S (fun _ => #[]) >>= _) _ _ _
    refine wpAny_bind ?_;refine wpAny_updateSeq hS' rfl (wpAny_bind (wpAny_letGo (wpAny_pure ?_)));exact hR i x vb _ hx rx (fun j' hj' => hbest j' (by omega)) (I1.turned1 (t' := tk') fS fun b o hb e => (s1.2 b hb).trans e)
  | succ r ih =>
    intro j i s x vb tb c hr' hj I hS hit hx rx hij hbest;have hlt : j + 1 < xs.length := by omega
    obtain ⟨its, rv, pl, hz⟩ := I.list hl;have hlen := rv.length;have W := Walks.list (prog := X.prog) (w := X.w) (A := X.A.in1) (I.ok.hd hc) I0 l hlI its.toArray;refine codeAny_builtin PySem.F.entry_min_loop ?_;rw [Around.under_plainId PySem.F.plain_min_loop _]
    show wpAny _ X.A.in1 (seqItems? (.ref S) >>= _) _ _ _
    refine wpAny_bind (wpAny_seqItems hS rfl ?_)
    show wpAny _ X.A.in1 (tryCatch (pyNext (.ref I0)) _ >>= _) _ _ _
    refine wpAny_bind (wpAny_tryCatch (W.item (j + 1) _ _ _ (by rw [Zr, <- hlen]; exact hlt) ⟨hit, pl.isList⟩ fun v h' tk' hP hst' hk' => ?_));have hv : its[j + 1]? = some v := by simpa using hP
    have ey : xs[j + 1]? = some xs[j + 1] := by simp [hlt]
    obtain ⟨v', hv', ry⟩ := rv.get ey;rw [hv] at hv';cases hv';have I1 : Inv X pins σ H { s with heap := h', toks := tk' } := I.turned1 fI fun b o hb e => hk' b o (by simpa using hb) e
    have hS' := hk' S _ (by simpa using hSI) hS;obtain ⟨oI', hoI', hoc, hod⟩ := id hst'.1
    show wpAny _ X.A.in1 (tryCatch (holding [v] (call (.ref f) [v])) _ >>= _) _ _ _
    refine wpAny_bind (wpAny_tryCatch (wpAny_holding (av (fp := [S, I0]) F hb hr I1 (fun b hb => ?_) (fun b hb => ?_) ry (turn (j + 1) _ ey) fun t2 s2 I2 kp => ?_)))
    . simp only [ZK, Zx, or_false] at hb
      rcases hb with rfl | rfl
      . exact fS
      . exact fI
    . simp only [ZK, Zx, or_false] at hb
      rcases hb with rfl | rfl
      . exact ⟨_, hS', fun v q => by cases q⟩
      . exact ⟨oI', hoI', fun v q => by rw [hod] at q; cases q⟩
    have nS2 := kp S (by simp) _ hS';have nI2 := kp I0 (by simp) _ hoI';have hit2 : s2.heap.IsListIter I0 l (j + 1 + 1) := ⟨oI', nI2, hoc, hod⟩
    show wpAny _ X.A.in1 (tryCatch (holding [v, .int (kf (j + 1)) t2] (richCompare .Lt (.int (kf (j + 1)) t2) (.int (kf i) tb) >>= _)) _ >>= _) _ _ _
    refine wpAny_bind (wpAny_tryCatch (wpAny_holding (wpAny_bind (CmpOf.ints_lt (prog := X.prog) (w := X.w) (A := X.A.in1) (P := fun i v => ∃ t, v = .int (kf i) t) kf (fun i v h => h) (j + 1) i _ _ _ _ _ ⟨t2, rfl⟩ ⟨tb, rfl⟩ ?_))));refine wpAny_bind (wpAny_holding (wpAny_truthy_bool ?_));refine wpAny_bind (wpAny_letGo (wpAny_pure ?_))
    by_cases hb' : kf (j + 1) < kf i
    . have s1 := Heap.SameBut.update s2.heap S (Obj.mapSeq fun _ => #[v, .int (kf (j + 1)) t2])
      obtain ⟨c2, hc2⟩ : ∃ c2, (s2.heap.update S (Obj.mapSeq fun _ => #[v, .int (kf (j + 1)) t2])).get? S = some (seqObj "list" #[v, .int (kf (j + 1)) t2] c2) := ⟨_, get?_update_seq nS2 fun _ => #[v, .int (kf (j + 1)) t2]⟩;simp only [hb', decide_true, if_true];refine wpAny_bind ?_;refine wpAny_updateSeq nS2 rfl (wpAny_bind (wpAny_letGo ?_));rw [hname];refine wpAny_pure ⟨plainId_quiet PySem.F.plain_min_loop _, ih (j + 1) (j + 1) _ _ v t2 c2 (by omega) hlt (I2.turned1 (t' := s2.toks) fS fun b o hb e => (s1.2 b hb).trans e) hc2 ⟨oI', (s1.2 I0 hSI.symm).trans nI2, hoc, hod⟩ ey ry (Zm _) fun j' hj' => ?_⟩
      by_cases e : j' = j + 1
      . subst e
        exact ⟨by omega, fun _ => by omega⟩
      . have hb1 := hbest j' (by omega)
        have hb2 := hb1.1;exact ⟨by omega, fun _ => by omega⟩
    . simp only [hb', decide_false, Bool.false_eq_true, if_false]
      refine wpAny_bind (wpAny_letGo ?_);rw [hname];refine wpAny_pure ⟨plainId_quiet PySem.F.plain_min_loop _, ih (j + 1) i s2 x vb tb c (by omega) hlt I2 nS2 hit2 hx rx (by omega) fun j' hj' => ?_⟩
      by_cases e : j' = j + 1
      . subst e
        exact ⟨by omega, fun _ => by omega⟩
      . exact hbest j' (by omega)
theorem zf6 (kf : Nat -> Int) {s : Shared} {l : Addr} {xs : List V} {Q : VK} {E : Value -> Shared -> Prop} (hc : X.calm = true) (F : FnOk X.prog X.w X.K X.mg X.base CX0 k f fd ps sp) (hb : Binds X.K fd ps []) (hr : Room k X.A.in1)
    (I : Inv X pins σ H s) (hl : SqL X.K H l xs) (hne : 0 < xs.length)
    (turn : ∀ i x, xs[i]? = some x -> sp [x] H (fun v H' => v = .int (kf i) /\ H' = H) E0)
    (hQ : ∀ i x, xs[i]? = some x -> (∀ j, j < xs.length -> kf i <= kf j /\ (j < i -> kf i < kf j)) -> Q x H) :
    wpAny (model X.prog X.w) X.A (call (.builtin "min") [.ref l] [(Str.ofString "key", .ref f)]) (EP X pins σ Q) E s := by
  have hname : (toString "min" ++ toString ".loop" : String) = "min.loop" := by decide
  obtain ⟨its, rv, pl, hz⟩ := I.list hl;have hlen := rv.length;have hls := pl.isList;obtain ⟨ol, hol, _⟩ := id hls;have hll : l < s.heap.objs.size := Heap.lt_size hol;refine kmk_tree PySem.F.kind_min PySem.F.plain_min PySem.F.entry_min (kmk_min_key _ _) ?_
  show wpAny _ X.A.in1 (Builtin.Builtins.bindParams "min" ["key", "default"] 0 ⟨[], [(Str.ofString "key", .ref f)]⟩ >>= _) _ _ s
  refine wpAny_bind (wpAny_of_eq (show Builtin.Builtins.bindParams "min" ["key", "default"] 0 ⟨[], [(Str.ofString "key", .ref f)]⟩ = pure [some (.ref f), none] from rfl) ?_);refine wpAny_bind (wpAny_pure ?_);refine wpAny_bind (wpAny_pyIter_list hls ?_);refine wpAny_bind (wpAny_newList ?_ (ZE _));rw [hname];generalize hP : s.heap.push { cls := .type "list_iterator", data := .fields #[.ref l, .int 0 0] } = HP;have hS : HP.objs.size = s.heap.objs.size + 1 := by rw [<- hP]; exact size_push' ..
  have hlI : l ≠ s.heap.objs.size := Zs hll;have hSI : HP.objs.size ≠ s.heap.objs.size := by rw [hS]; exact Yq (YF _)
  have hlS : l ≠ HP.objs.size := by rw [hS]; exact Zs (Yo hll)
  refine wpAny_pure ⟨plainId_quiet PySem.F.plain_min_loop _, ?_⟩;have old : ∀ b o, s.heap.get? b = some o -> (HP.push (seqObj "list" #[] 0)).get? b = some o := fun b o e => Heap.get?_push_of_some _ (by rw [<- hP]; exact Heap.get?_push_of_some _ e)
  have I0 : Inv X pins σ H { s with heap := HP.push (seqObj "list" #[] 0), toks := s.toks } := I.kept old
  have gI : (HP.push (seqObj "list" #[] 0)).get? s.heap.objs.size = some { cls := .type "list_iterator", data := .fields #[.ref l, .int 0 0] } :=
    Heap.get?_push_of_some _ (by rw [<- hP]; exact Heap.get?_push_size _ rfl)
  have gS : (HP.push (seqObj "list" #[] 0)).get? HP.objs.size = some (seqObj "list" #[] 0) := Heap.get?_push_size _ rfl;have fI : FpOk X pins H s.heap.objs.size := I.fpOk (Zm _) (I.hok.fresh (Zm _));have fS : FpOk X pins H HP.objs.size := I.fpOk (by rw [hS]; exact YE _) (I.hok.fresh (by rw [hS]; exact YE _));have W := Walks.list (prog := X.prog) (w := X.w) (A := X.A.in1) (I.ok.hd hc) s.heap.objs.size l hlI its.toArray;refine codeAny_builtin PySem.F.entry_min_loop ?_;rw [Around.under_plainId PySem.F.plain_min_loop _]
  show wpAny _ X.A.in1 (seqItems? (.ref _) >>= _) _ _ _
  refine wpAny_bind (wpAny_seqItems gS rfl ?_)
  show wpAny _ X.A.in1 (tryCatch (pyNext (.ref s.heap.objs.size)) _ >>= _) _ _ _
  have hlist : (HP.push (seqObj "list" #[] 0)).IsList l its.toArray := by
    obtain ⟨o, e, r⟩ := hls;exact ⟨o, old l o e, r⟩
  refine wpAny_bind (wpAny_tryCatch (W.item 0 _ _ _ (by rw [Zr, <- hlen]; exact hne) ⟨⟨_, gI, rfl, rfl⟩, hlist⟩ fun v h' tk' hP' hst' hk' => ?_));have hv : its[0]? = some v := by simpa using hP'
  have ey : xs[0]? = some xs[0] := by simp [hne]
  obtain ⟨v', hv', ry⟩ := rv.get ey;rw [hv] at hv';cases hv';have I1 : Inv X pins σ H { s with heap := h', toks := tk' } := I0.turned1 fI fun b o hb e => hk' b o (by simpa using hb) e
  have hS' := hk' HP.objs.size _ (by simpa using hSI) gS;obtain ⟨oI', hoI', hoc, hod⟩ := id hst'.1
  show wpAny _ X.A.in1 (tryCatch (holding [v] (call (.ref f) [v])) _ >>= _) _ _ _
  refine wpAny_bind (wpAny_tryCatch (wpAny_holding (av (fp := [HP.objs.size, s.heap.objs.size]) F hb hr I1 (fun b hb => ?_) (fun b hb => ?_) ry (turn 0 _ ey) fun t2 s2 I2 kp => ?_)))
  . simp only [ZK, Zx, or_false] at hb
    rcases hb with rfl | rfl
    . exact fS
    . exact fI
  . simp only [ZK, Zx, or_false] at hb
    rcases hb with rfl | rfl
    . exact ⟨_, hS', fun v q => by cases q⟩
    . exact ⟨oI', hoI', fun v q => by rw [hod] at q; cases q⟩
  have nS2 := kp HP.objs.size (by simp) _ hS';have nI2 := kp s.heap.objs.size (by simp) _ hoI';have s1 := Heap.SameBut.update s2.heap HP.objs.size (Obj.mapSeq fun _ => #[v, .int (kf 0) t2]);obtain ⟨c2, hc2⟩ : ∃ c2, (s2.heap.update HP.objs.size (Obj.mapSeq fun _ => #[v, .int (kf 0) t2])).get? HP.objs.size = some (seqObj "list" #[v, .int (kf 0) t2] c2) := ⟨_, get?_update_seq nS2 fun _ => #[v, .int (kf 0) t2]⟩
  show wpAny _ X.A.in1 (updateSeq HP.objs.size (fun _ => #[v, .int (kf 0) t2]) >>= _) _ _ _
  refine wpAny_bind ?_;refine wpAny_updateSeq nS2 rfl ?_;rw [hname];refine wpAny_pure ⟨plainId_quiet PySem.F.plain_min_loop _, zfo kf hc F hb hr hlI hlS hSI hl fS fI turn (fun i x u s' h1 h2 h3 h4 => ⟨x, H, h4, h2, hQ i x h1 h3⟩) _ 0 0 _ _ v t2 c2 rfl hne (I2.turned1 (t' := s2.toks) fS fun b o hb e => (s1.2 b hb).trans e) hc2 ⟨oI', (s1.2 _ hSI.symm).trans nI2, hoc, hod⟩ ey ry (Zm _) fun j' hj' => ?_⟩;have e : j' = 0 := by omega
  subst e;exact ⟨by omega, fun _ => by omega⟩
def tMinK (K : Fg) (sp : Sp) (ta : TA) : TE := fun σ H Q => ta σ H fun vs H1 => ∃ (l : Addr) (xs : List V) (kf : Nat -> Int), vs = [.ref l] /\ SqL K H1 l xs /\ 0 < xs.length /\
  (∀ i x, xs[i]? = some x -> sp [x] H1 (fun v H' => v = .int (kf i) /\ H' = H1) E0) /\ ∀ i x, xs[i]? = some x -> (∀ j, j < xs.length -> kf i <= kf j /\ (j < i -> kf i < kf j)) -> Q x H1
theorem e_minK {K : Fg} {ta : TA} {Q : VK} : tMinK K sp ta σ H Q = ta σ H fun vs H1 => ∃ (l : Addr) (xs : List V) (kf : Nat -> Int), vs = [.ref l] /\ SqL K H1 l xs /\ 0 < xs.length /\
  (∀ i x, xs[i]? = some x -> sp [x] H1 (fun v H' => v = .int (kf i) /\ H' = H1) E0) /\ ∀ i x, xs[i]? = some x -> (∀ j, j < xs.length -> kf i <= kf j /\ (j < i -> kf i < kf j)) -> Q x H1 := rfl
theorem zbw {y : Str} {e : Expr} {t : TA} {p p2 pos kpos : Pos} (F : FnAt X.prog X.w X.K X.mg X.base y k ps sp) (hr : Room (k + 1) X.A) (hc : X.calm = true) (hgm : Gl X "min") (hm : X.mg "min" = none) (hg : Gl X y) (ha : PA X [e] t)
    (hdb : (y == ("__debug__" : Str)) = false := by decide)
    (he : backTo pos (starEach [e] X.env) = (false, eval e X.env) :: backTo pos (starEach [] X.env) := by rfl) (hpl : (backTo pos (starEach [e] X.env)).any (·.1) = false := by rfl) :
    PE X (.Call (.Name "min" p) [e] [⟨some (Str.ofString "key"), .Name y p2, kpos⟩] pos) (tMinK X.K sp t) := by
  intro pins s σ H Q I h;obtain ⟨f, fd, hmy, hk, hb, G⟩ := F.ex;refine wpAny_Call_Name_kw (v5 I hgm hm bv ?_);refine PyProof.Rows.callWith_kw (thn (ha pos pins s σ H _ I h) fun us s1 ⟨vs, H1, I1, r1, q1⟩ => ?_) he hpl rfl rfl;obtain ⟨l, xs, kf, ev, hl, hne, turn, q⟩ := q1;subst ev;obtain ⟨u, rfl, ru⟩ := Vals.one r1;cases ru;refine thn ((zhn (nm := some (Str.ofString "key")) (kpos := kpos) (wm (v := .ref f) hg hmy rfl hdb) pk_nil) pos pins s1 σ H1 (fun zs H2 => zs = [.ref f] /\ H2 = H1) I1 ⟨rfl, rfl⟩) fun ws s2 ⟨zs, H2, I2, rz, ez, eh⟩ => ?_
  subst ez eh;obtain ⟨w1, rfl, rw1⟩ := Vals.one rz;cases rw1;exact zf6 kf hc G hb hr.in1 I2 hl hne turn q
end
end L2
namespace L2
open PySem PySem.Spec PyProof.Rows
def CX1 (P : Program) (w : World) : CXT := fun outer H s E e s' => ∃ (ea C : Addr) (a0 : Value) (B : Heap) (H' : Hp), e = .ref ea /\ s'.os = s.os /\ AllBare s'.gens /\ Un (frs outer) [] H H' s.heap s'.heap /\ HOk P w H' s'.heap /\
  Heap.FlyingW B outer ea (.ref C) a0 s'.heap /\ H' ea = none /\ (∀ b o, H' b = some o -> ∃ ob, B.get? b = some ob) /\ (∀ b o, s.heap.get? b = some o -> b ∉ frs outer -> ∃ ob, B.get? b = some ob /\ (H b = none -> ob = o)) /\ E (.ref C) none H'
theorem pass1 {P : Program} {w : World} {X : Cx} : jg (CX1 P w) X E0 := fun _ _ _ _ _ _ _ h => by
  obtain ⟨_, _, _, _, _, _, _, _, _, _, _, _, _, _, z⟩ := h;exact z.elim
theorem HOk.flown {P : Program} {w : World} {H : Hp} {h h' B : Heap} (x : HOk P w H h) (bh : B.StaysIn h) (bh' : B.StaysIn h') (dom : ∀ b o, H b = some o -> ∃ ob, B.get? b = some ob) : HOk P w H h' := fun a o e =>
  (x a o e).stay (fun b u hb q => by
    have hB : ∃ ob, B.get? b = some ob := by
      rcases hb with rfl | hb
      . exact dom _ _ e
      . exact dom _ _ hb
    obtain ⟨ob, hob⟩ := hB;have := bh b ob hob;rw [q] at this;cases this
    exact bh' b u hob) (fun _ q => q) fun _ _ q => q
theorem j5 {P : Program} {w : World} {H : Hp} {h : Heap} {a : Addr} {o : HO} (x : ObjOk P w H h a o) : ∃ ob, h.get? a = some ob := by
  cases o with
  | lst xs => obtain ⟨_, _, _, _, e⟩ := x; exact ⟨_, e⟩
  | tup xs => obtain ⟨_, _, _, o, e, _⟩ := x; exact ⟨_, e⟩
  | dK kvs => obtain ⟨_, _, _, _, o, _, _, e, _⟩ := x; exact ⟨_, e⟩
  | dT kvs => obtain ⟨_, _, _, _, o, _, _, e, _⟩ := x; exact ⟨_, e⟩
  | set S n => obtain ⟨o, _, _, _, e, _⟩ := x; exact ⟨_, e⟩
  | ins C dx fs => obtain ⟨_, _, _, e, _⟩ := x; exact ⟨_, e⟩
  | own y => exact x
  | xd fs => obtain ⟨_, ⟨_, _, _, e, _⟩, _⟩ := x; exact ⟨_, e⟩
  | rng lo hi => obtain ⟨_, _, _, e⟩ := x; exact ⟨_, e⟩
  | frz ob u => obtain ⟨e, _⟩ := x; exact ⟨_, e⟩
  | tbl ps => exact ⟨_, (show h.get? a = some _ from x)⟩
  | met f y => exact ⟨_, (show h.get? a = some _ from x)⟩
  | ext φ => obtain ⟨_, e, _⟩ := x; exact e
section
variable {X : Cx} {pins : List (Addr × Obj)} {σ : St} {H : Hp} {s : Shared}
theorem ix {fs : List Addr} {H0 H1 : Hp} {h0 h1 h2 B : Heap} (u : Un fs [] H0 H1 h0 h1) (dom2 : ∀ b o, h0.get? b = some o -> b ∉ fs -> ∃ ob, B.get? b = some ob /\ (H0 b = none -> ob = o))
    (bh' : B.StaysIn h2) (sl : h1.UpToSlots h2) (hfr : ∀ b ∈ fs, ∀ o, h1.get? b = some o -> ∀ vs, o.data ≠ .fields vs) : Un fs [] H0 H1 h0 h2 where
  keep := fun b o e n hb _ => by
    obtain ⟨ob, e1, e2⟩ := dom2 b o e hb;rw [e2 n] at e1;exact bh' b o e1
  slot := fun b o e n hb hx => by
    obtain ⟨s1, e1⟩ := u.slot b o e n hb hx;obtain ⟨s2, e2⟩ := sl b _ e1 (hfr b hb _ e1);exact ⟨s2, e2⟩
  free := u.free
  there := fun b o e hx => by
    by_cases hb : b ∈ fs
    . obtain ⟨o1, e1⟩ := u.there b o e hx
      obtain ⟨s2, e2⟩ := sl b _ e1 (hfr b hb _ e1);exact ⟨_, e2⟩
    . obtain ⟨ob, e1, _⟩ := dom2 b o e hb
      exact ⟨ob, bh' b ob e1⟩
  tups := u.tups
  frzs := u.frzs
  tbls := u.tbls
theorem bd {P : Program} {w : World} {K : Fg} {mg : Str -> Option Value} {base : Heap} {N : List Str} {qual : Str} {scope : Scope} {f : Addr} {cd : Value} {A : Around} {outer : List Env} {s0 : Shared} {H0 : Hp} {E : XK} {h' : Heap} {e C : Addr} {args : List Value}
    (hX : X = cxOf (CX1 P w) P w K mg base N qual scope f cd A outer s0 H0 E) (I : Inv X pins σ H s) (hx : Heap.MadeExcOf s.heap h' e (.ref C) args) (hE : E (.ref C) none H) (tk : Nat) : X.xe (.ref e) { s with heap := h', toks := tk } := by
  subst hX
  show wpAny _ _ (leaving _ (.ref e)) _ _ _
  have hst : s.heap.FunFrames base (envOfC qual scope s0.heap.objs.size f cd :: outer) := I.stack;have hin : ∀ env ∈ (envOfC qual scope s0.heap.objs.size f cd :: outer), ∀ b, env.frame = some b -> b ∈ (envOfC qual scope s0.heap.objs.size f cd :: outer).filterMap (·.frame) := fun env he b hb => ZS.mpr ⟨env, he, hb⟩
  have getB : ∀ b o, s.heap.get? b = some o -> b ∉ (envOfC qual scope s0.heap.objs.size f cd :: outer).filterMap (·.frame) -> (PySem.W.hideAll s.heap ((envOfC qual scope s0.heap.objs.size f cd :: outer).filterMap (·.frame))).get? b = some o := fun b o q n => PySem.W.hideAll_get _ q n
  refine wpAny_leaves_madeW (s := { s with heap := h', toks := tk }) (h := s.heap) I.ok.frames rfl (fun b o q => PySem.W.of_hideAll _ q) (PySem.W.funFrames_hide hst hin) hx fun h'' t x1 x2 x3 x4 => ?_
  have dom : ∀ b o, H b = some o -> ∃ ob, (PySem.W.hideAll s.heap ((envOfC qual scope s0.heap.objs.size f cd :: outer).filterMap (·.frame))).get? b = some ob := fun b o q => by
    have hlt := I.hok.lt q
    have hnf : b ∉ (envOfC qual scope s0.heap.objs.size f cd :: outer).filterMap (·.frame) := fun z => by
      have := I.stkFree b z;rw [q] at this; cases this
    obtain ⟨ob, hob⟩ := j5 (I.hok b o q);exact ⟨ob, getB b ob hob hnf⟩
  have un : Un (frs outer) [] H0 H s0.heap s.heap := I.base
  have dom2 : ∀ b o, s0.heap.get? b = some o -> b ∉ frs outer -> ∃ ob, (PySem.W.hideAll s.heap ((envOfC qual scope s0.heap.objs.size f cd :: outer).filterMap (·.frame))).get? b = some ob /\ (H0 b = none -> ob = o) := fun b o q n => by
    have hnf : b ∉ (envOfC qual scope s0.heap.objs.size f cd :: outer).filterMap (·.frame) := fun z => by
      rcases ZK.mp (I.stkSub b z) with y | y
      . have h1 : s0.heap.objs.size <= b := by rw [y]; exact I.ok.above
        exact absurd (Zh (Heap.lt_size q) h1) (ZJ _)
      . exact n y
    obtain ⟨o1, e1⟩ := un.there b o q (by simp);refine ⟨o1, getB b o1 e1 hnf, fun z => ?_⟩;have := un.keep b o q z n (by simp);rw [e1] at this;exact Option.some.inj this
  have hfr : ∀ b ∈ frs outer, ∀ o, s.heap.get? b = some o -> ∀ vs, o.data ≠ .fields vs := fun b hb o q => by
    obtain ⟨_, o', e', n'⟩ := hst.mem (b := b) (by
      obtain ⟨env, he, hf⟩ := ZS.mp hb
      exact ZS.mpr ⟨env, Zv _ he, hf⟩)
    rw [q] at e'; cases e';exact n'
  have sl : s.heap.UpToSlots h'' := (Heap.UpToSlots.of_keeps hx.keeps).trans x4;refine ⟨e, C, _, _, H, rfl, I.os, I.bare, ix un dom2 x1.1 sl hfr, HOk.flown I.hok (fun b o q => PySem.W.of_hideAll _ q) x1.1 dom, x1, ?_, dom, dom2, hE⟩
  cases q : H e with
  | none => rfl
  | some o =>
    obtain ⟨ob, hob⟩ := j5 (I.hok e o q);rw [hx.new] at hob; cases hob
theorem passX {P : Program} {w : World} {K : Fg} {mg : Str -> Option Value} {base : Heap} {N : List Str} {qual : Str} {scope : Scope} {f : Addr} {cd : Value} {A : Around} {outer : List Env} {s0 : Shared} {H0 : Hp} {E E1 : XK}
    (hX : X = cxOf (CX1 P w) P w K mg base N qual scope f cd A outer s0 H0 E) (hE : ∀ c H', E1 c none H' -> E c none H') : jg (CX1 P w) X E1 := by
  subst hX;intro pins σ H s e s' I h;obtain ⟨ea, C, a0, B, H', rfl, os, bare, un, hok, fl, hea, dom, dom2, hE1⟩ := h
  show wpAny _ _ (leaving _ (.ref ea)) _ _ _
  have hst : s'.heap.FunFrames B (envOfC qual scope s0.heap.objs.size f cd :: outer) := fl.2.2.1;have un0 : Un (frs outer) [] H0 H s0.heap s.heap := I.base
  have sub : ∀ b ∈ frs outer, b ∈ frs (envOfC qual scope s0.heap.objs.size f cd :: outer) := fun b hb => by
    obtain ⟨env, he, hf⟩ := ZS.mp hb;exact ZS.mpr ⟨env, Zv _ he, hf⟩
  have notL : ∀ b o, s0.heap.get? b = some o -> b ∉ frs outer -> b ∉ frs (envOfC qual scope s0.heap.objs.size f cd :: outer) := fun b o q n z => by
    rcases ZK.mp (I.stkSub b z) with y | y
    . have h1 : s0.heap.objs.size <= b := by rw [y]; exact I.ok.above
      exact absurd (Zh (Heap.lt_size q) h1) (ZJ _)
    . exact n y
  refine wpAny_leaves_onW I.ok.frames rfl fl fun h'' x1 x2 => ?_
  have ut := (un0.mono sub (fun _ z => z)).trans un;have un1 : Un (frs outer) [] H0 H' s0.heap s'.heap := ⟨fun b o e n hb hx => ut.keep b o e n (notL b o e hb) hx, fun b o e n hb hx => ut.slot b o e n (sub b hb) hx, ut.free, ut.there, ut.tups, ut.frzs, ut.tbls⟩
  have dom2' : ∀ b o, s0.heap.get? b = some o -> b ∉ frs outer -> ∃ ob, B.get? b = some ob /\ (H0 b = none -> ob = o) := fun b o q n => by
    obtain ⟨o1, e1⟩ := un0.there b o q (by simp);obtain ⟨ob, k1, k2⟩ := dom2 b o1 e1 (notL b o q n);refine ⟨ob, k1, fun z => ?_⟩;have e2 := un0.keep b o q z n (by simp);rw [e1] at e2;cases e2;exact k2 (un0.free b _ q z (by simp))
  have hfr : ∀ b ∈ frs outer, ∀ o, s'.heap.get? b = some o -> ∀ vs, o.data ≠ .fields vs := fun b hb o q => by
    obtain ⟨_, o', e', n'⟩ := hst.mem (b := b) (sub b hb);rw [q] at e'; cases e';exact n'
  exact ⟨ea, C, a0, B, H', rfl, os.trans I.os, bare, ix un1 dom2' x1.1 x2 hfr, HOk.flown hok fl.1 x1.1 dom, x1, hea, dom, dom2', hE _ _ hE1⟩
theorem Inv.track {ea : Addr} {oe : Obj} {o : HO} (I : Inv X pins σ H s) (he : s.heap.get? ea = some oe) (hn : H ea = none) (new : X.s₀.heap.get? ea = none) (hL : ea ≠ X.env.locals) (hC : ∀ x c, X.env.cells.lookup x = some c -> c ≠ ea) (hp : ∀ p ∈ X.pn ++ pins, p.1 ≠ ea)
    (ok : ObjOk X.prog X.w (upd H ea o) s.heap ea o) : Inv X pins σ (upd H ea o) s := by
  have ne0 : ∀ b u, H b = some u -> b ≠ ea := fun b u q z => by rw [z, hn] at q; cases q
  have new' : ∀ b u, X.s₀.heap.get? b = some u -> b ≠ ea := fun b u q z => by rw [z, new] at q; cases q
  refine ⟨I.ok, I.os, I.bare, ⟨I.base.keep, I.base.slot, fun b u q n hx => ?_, I.base.there, fun b xs q => ?_, fun b u v q => ?_, fun b ps q => ?_⟩, I.loc, I.cell, ?_, fun x c q => ?_, fun p h => ?_, fun b u q => ?_, I.len⟩
  . rw [zr (new' b u q)]; exact I.base.free b u q n hx
  . have := I.base.tups b xs q; rw [zr (ne0 b _ this)]; exact this
  . have := I.base.frzs b u v q; rw [zr (ne0 b _ this)]; exact this
  . obtain ⟨m, this⟩ := I.base.tbls b ps q; exact ⟨m, by rw [zr (ne0 b _ this)]; exact this⟩
  . rw [zr (Ne.symm hL)]; exact I.free
  . rw [zr (hC x c q)]; exact I.freeC x c q
  . obtain ⟨h1, h2, h3⟩ := I.pin p h
    exact ⟨h1, by rw [zr (hp p h)]; exact h2, h3⟩
  . by_cases hb : b = ea
    . subst hb; rw [ze] at q; cases q; exact ok
    . rw [zr hb] at q
      exact (I.hok b u q).stay (fun _ _ _ z => z) (fun c z => by rw [zr (ne0 c _ z)]; exact z) fun c xs z => by rw [zr (ne0 c _ z)]; exact z
def ExcO (ea C : Addr) : HO := .ext fun h => ∃ o, h.get? ea = some o /\ o.cls = .ref C /\ ∃ vs, o.data = .fields vs
abbrev Cx.suite (X : Cx) (e : Value) : Cx := { X with A := X.A.mark (some e), calm := false, xe := fun _ _ => False }
theorem Inv.suite (I : Inv X pins σ H s) (e : Value) : Inv (X.suite e) pins σ H s :=
  ⟨⟨I.ok.mod, I.ok.kind, I.ok.glob, I.ok.blt, I.ok.above, I.ok.inj, I.ok.has, I.ok.cab, (fun z => by cases z), I.ok.frames, I.ok.stk, I.ok.exf, I.ok.bs, I.ok.bsz, I.ok.noex, I.ok.exfs, I.ok.funs, I.ok.frf⟩, I.os, I.bare, I.base, I.loc, I.cell, I.free, I.freeC, I.pin, I.hok, I.len⟩
theorem Inv.unsuite {e : Value} (I : Inv (X.suite e) pins σ H s) (hd : X.calm = true -> X.A.handled = none) : Inv X pins σ H s :=
  ⟨⟨I.ok.mod, I.ok.kind, I.ok.glob, I.ok.blt, I.ok.above, I.ok.inj, I.ok.has, I.ok.cab, hd, I.ok.frames, I.ok.stk, I.ok.exf, I.ok.bs, I.ok.bsz, I.ok.noex, I.ok.exfs, I.ok.funs, I.ok.frf⟩, I.os, I.bare, I.base, I.loc, I.cell, I.free, I.freeC, I.pin, I.hok, I.len⟩
end
abbrev VE : List Value := [.type "ValueError", .type "Exception", .type "BaseException", .type "object"]
structure Err (K : Fg) (C : Addr) : Prop where
  ok : PySem.W.excIn K C VE "ValueError.__new__" = true
theorem Err.obj {K : Fg} {C : Addr} {h : Heap} (c : Err K C) (X : K.In h) : ∃ bm N nm q bs hdct sn sub ab col dd k0 k1 k2 k3 k5 mN, h.get? C = some (excClassObj nm q C N bs bm hdct sn sub ab col dd k0 k1 k2 k3 k5 "ValueError.__new__") /\
    h.Ns N mN /\ mN "__init__" = none /\ OwnTail h VE bm /\ ∀ v b, PySem.W.mroIn K C v = some b -> (Value.ref C :: bm).contains v = b := by
  have q := c.ok;unfold PySem.W.excIn at q
  split at q
  case h_2 => cases q
  case h_1 dd cd sl ho =>
    split at q
    case h_2 => cases q
    case h_1 C' bm k0 k1 k2 k3 n k5 hm hs =>
      simp only [Bool.and_eq_true, beq_iff_eq, Bool.not_eq_true'] at q
      have hmro : ∀ v b, PySem.W.mroIn K C v = some b -> (Value.ref C' :: bm).contains v = b := fun v b e => by
        unfold PySem.W.mroIn PySem.W.clsIn at e;rw [ho] at e;simp only [Option.bind_some, hm, List.isEmpty_cons, Bool.false_eq_true, if_false, Option.some.injEq] at e;exact e
      obtain ⟨⟨⟨⟨⟨e1, e2⟩, hdel⟩, ht⟩, hok⟩, hni⟩ := q;subst e1;subst e2;obtain ⟨nm, bs, mro, ns, qn, hd, sn, sub, ab, col, del⟩ := cd;have hm' : mro = Value.ref C' :: bm := hm;have hdel' : del = false := hdel;subst hm';subst hdel'
      have hsl : sl = #[k0, k1, k2, k3, some (.builtin "ValueError.__new__"), k5] := by
        cases sl with
        | mk l =>
          have hs' : l = [k0, k1, k2, k3, some (.builtin "ValueError.__new__"), k5] := hs;rw [hs']
      subst hsl;exact ⟨bm, ns, nm, qn, bs, hd, sn, sub, ab, col, dd, k0, k1, k2, k3, k5, _, X _ _ ho, .of_isNs (PySem.W.isNs_of_in X hok), PySem.W.nsMap_none_of_in X hok hni, PySem.W.tail_of_in X ht, hmro⟩
section
variable {M : Model} {A : Around} {E : Value -> Shared -> Prop}
theorem fi {h : Heap} {g : Array GenState} {d : Drawn} {t : Nat} {os : OsState} {e C D : Addr} {oe : Obj} {Q : Bool -> Shared -> Prop} {b : Bool} {K : Fg} (X : K.In h) (cC : Err K C) (cD : Err K D) (he : h.get? e = some oe) (hcls : oe.cls = .ref C)
    (hsub : PySem.W.mroIn K C (.ref D) = some b) (hq : Q b ⟨h, g, d, t, os⟩) : wpAny M A (excMatches (.ref e) (.ref D)) Q E ⟨h, g, d, t, os⟩ := by
  obtain ⟨bm, N, nm, q, bs, hdct, sn, sub, ab, col, dd, k0, k1, k2, k3, k5, mN, hC, hN, hni, T, hm⟩ := cC.obj X;obtain ⟨bm', N', nm', q', bs', hdct', sn', sub', ab', col', dd', k0', k1', k2', k3', k5', mN', hD, hN', hni', T', hm'⟩ := cD.obj X;have hcB : (Value.ref D :: bm').contains (.type "BaseException") = true := by rw [YL, T'.hasType (X := "BaseException") (b := true) (by decide +kernel), Bool.or_true]
  have hcD := hm _ _ hsub;have f := tc_notTuple;unfold excMatches
  repeat (first | (with_reducible refine wpAny_loadPart_at he ?_; rw [hcls]) | with_reducible refine wpAny_loadPart_at hD ?_ | (with_reducible refine wpAny_isSubtype_exc hD ?_; rw [hcB]) | (with_reducible refine wpAny_isSubtype_exc hC ?_; rw [hcD]) | wp_step)
  cases b <;> (try wp_walk) <;> exact hq
end
end L2
namespace L2
open PySem PySem.Spec PyProof.Rows
theorem PS.nox {X : Cx} {st : Stmt} {t : TS} (h : PS X.nox st t) : PS X st t := fun pins s σ H D I hw =>
  wpAny_mono (h pins s σ H D (I.wish _) hw) (fun _ _ z => z.unwish) fun _ _ z => z.elim
def tryXe (X : Cx) (pn : List (Addr × Obj)) (J : St -> Value -> Hp -> Prop) : Value -> Shared -> Prop := fun e s' =>
  ∃ pins σ H s, Inv { X with pn := pn, xe := fun _ _ => False } pins σ H s /\ CX1 X.prog X.w X.stack H s (fun c _ H' => J σ c H') e s'
abbrev ku (X : Cx) (pn : List (Addr × Obj)) (J : St -> Value -> Hp -> Prop) : Cx := { X with pn := pn, xe := tryXe X pn J }
def zdb (X : Cx) (J : St -> Value -> Hp -> Prop) : Prop := ∀ pins σ H s e s', Inv X pins σ H s -> CX1 X.prog X.w X.stack H s (fun c _ H' => J σ c H') e s' -> X.xe e s'
theorem df {X : Cx} {pn : List (Addr × Obj)} {J : St -> Value -> Hp -> Prop} : zdb (ku X pn J) J := fun pins σ H s e s' I h =>
  ⟨pins, σ, H, s, Inv.unwish (X := { X with pn := pn, xe := fun _ _ => False }) (E := tryXe X pn J) I, h⟩
theorem kj {X : Cx} {P : Program} {w : World} {K : Fg} {mg : Str -> Option Value} {base : Heap} {N : List Str} {qual : Str} {scope : Scope} {f : Addr} {cd : Value} {A : Around} {outer : List Env} {s0 : Shared} {H0 : Hp} {E : XK}
    (hX : X = cxOf (CX1 P w) P w K mg base N qual scope f cd A outer s0 H0 E) : zdb X (fun _ c H' => E c none H') := fun pins σ H s e s' I h => by
  have q := passX (X := X) (E1 := fun c _ H' => E c none H') hX (fun _ _ z => z) pins σ H s e s' I;subst hX;exact q h
structure FnAtX (P : Program) (w : World) (K : Fg) (mg : Str -> Option Value) (base : Heap) (name : Str) (k : Nat) (ps : List Str) (sp : Sp) : Prop where
  ex : ∃ f fd, mg name = some (.ref f) /\ PySem.W.keepIn K (.ref f) = true /\ Binds K fd ps [] /\ FnOk P w K mg base (CX1 P w) k f fd ps sp
theorem FnAtX.of {P : Program} {w : World} {K : Fg} {mg : Str -> Option Value} {base : Heap} {name : Str} {st : Stmt} {N ps : List Str} {k : Nat} {sp : Sp} (D : zf K mg name st ps) (S : zp N ps (zk st)) (len : ∀ vs H Q E, sp vs H Q E -> vs.length = ps.length)
    (hbody : ∀ (f : Addr) (cdv : Value) (A : Around) (outer : List Env) (s : Shared) (H : Hp) (vs : List V) (Q : VK) (E : XK), Room k (A.deeper (envOfC name (zk st) s.heap.objs.size f cdv)) -> sp vs H Q E ->
      ∃ t, PSs (cxOf (CX1 P w) P w K mg base N name (zk st) f cdv A outer s H E) (yx st) t /\ t { nx := fun _ H' => Q .non H', rt := Q } (zt N vs) H) : FnAtX P w K mg base name (k + 1) ps sp := by
  obtain ⟨f, fd, hm, F, hb⟩ := D.ex;refine ⟨f, fd, hm, F.kp, hb, ?_⟩;obtain ⟨oc, od, kV, doc, pm, an, cdv, ct, osl, rfl, lk, hcd⟩ := F.ex;exact fn_of lk hcd S len (hbody f cdv)
section
variable {X : Cx} {x : Str} {k : Nat} {ps : List Str} {sp : Sp} {p pos : Pos} {e : Expr} {es : List Expr} {t : TA}
def zfp (sp : Sp) (J : St -> Value -> Hp -> Prop) (t : TA) : TE := fun σ H Q => t σ H fun vs H1 => sp vs H1 Q fun c _ H' => J σ c H'
theorem zg5 {J : St -> Value -> Hp -> Prop} {σ : St} {H : Hp} {Q : VK} : zfp sp J t σ H Q = t σ H fun vs H1 => sp vs H1 Q fun c _ H' => J σ c H' := rfl
theorem oz {J : St -> Value -> Hp -> Prop} (F : FnAtX X.prog X.w X.K X.mg X.base x k ps sp) (hr : Room k X.A) (hx : zdb X J) (hg : Gl X x) (ha : PA X (e :: es) t) (hdb : (x == ("__debug__" : Str)) = false := by decide) (he : starEach (e :: es) X.env = (false, eval e X.env) :: starEach es X.env := by rfl)
    (hpl : (backTo pos (starEach es X.env)).any (·.1) = false := by rfl) : PE X (.Call (.Name x p) (e :: es) [] pos) (zfp sp J t) := by
  obtain ⟨f, fd, hm, hk, hb, G⟩ := F.ex;intro pins s σ H Q I h;refine wpAny_Call_Name_kw (m7 I hg hm ?_ hdb);refine PySem.W.callWith_K (h₀ := X.base) I.ok.mod.kin hk (thn (ha pos pins s σ H _ I h) fun us s1 ⟨vs, H1, I1, r, q⟩ => ⟨I1.kIn, ?_⟩) he hpl;have hl : (us ++ []).length = ps.length := by rw [Yw, <- r.length]; exact G.len _ _ _ _ q
  refine wpAny_call (codeAny_mono (G.run X.A X.stack s1 H1 ⟨us, []⟩ us vs Q _ hr I1.env0 (by have := hb s1 us I1.kIn hl; rw [Yw] at this; exact this) r q) fun r' s' hq => ?_)
  cases r' with
  | error e => exact hx pins σ H1 s1 e s' I1 hq
  | ok fl =>
    cases fl with
    | ret u => exact I1.after hq
    | next => exact False.elim hq
    | brk => exact False.elim hq
    | cont => exact False.elim hq
theorem lu (F : FnAtX X.prog X.w X.K X.mg X.base x k ps sp) (hr : Room k X.A) (hg : Gl X x) (ha : PA X (e :: es) t) (hdb : (x == ("__debug__" : Str)) = false := by decide) (he : starEach (e :: es) X.env = (false, eval e X.env) :: starEach es X.env := by rfl)
    (hpl : (backTo pos (starEach es X.env)).any (·.1) = false := by rfl) : PE X (.Call (.Name x p) (e :: es) [] pos) (cq sp [] E0 t) := by
  obtain ⟨f, fd, hm, hk, hb, G⟩ := F.ex;exact zb4 G hr hg hm hk hb .nil pass1 ha hdb he hpl
end
section
variable {X : Cx} {C : Addr} {x : Str} {np cpos pos : Pos}
def zed (X : Cx) (C : Addr) (R : Hp -> Prop) : Prop := ∀ pins σ H s h' e args tk, Inv X pins σ H s -> Heap.MadeExcOf s.heap h' e (.ref C) args -> R H -> X.xe (.ref e) { s with heap := h', toks := tk }
theorem j3 {P : Program} {w : World} {K : Fg} {mg : Str -> Option Value} {base : Heap} {N : List Str} {qual : Str} {scope : Scope} {f : Addr} {cd : Value} {A : Around} {outer : List Env} {s0 : Shared} {H0 : Hp} {E : XK}
    (hX : X = cxOf (CX1 P w) P w K mg base N qual scope f cd A outer s0 H0 E) : zed X C (fun H => E (.ref C) none H) := fun pins σ H s h' e args tk I hx hE => bd hX I hx hE tk
def zft (R : Hp -> Prop) (ta : TA) : TS := fun _ σ H => ta σ H fun vs H1 => vs.length <= sizeLine /\ R H1
theorem zhd {R : Hp -> Prop} {ta : TA} {D : Ends} {σ : St} {H : Hp} : zft R ta D σ H = ta σ H fun vs H1 => vs.length <= sizeLine /\ R H1 := rfl
theorem zab {e : Expr} {es : List Expr} {R : Hp -> Prop} {ta : TA} (hc : X.calm = true) (c : Err X.K C) (hg : Gl X x) (hm : X.mg x = some (.ref C)) (hr : zed X C R) (ha : PA X (e :: es) ta) (hdb : (x == ("__debug__" : Str)) = false := by decide)
    (he : starEach (e :: es) X.env = (false, eval e X.env) :: starEach es X.env := by rfl) (hpl : (backTo cpos (starEach es X.env)).any (·.1) = false := by rfl) :
    PS X (.Raise (some (.Call (.Name x np) (e :: es) [] cpos)) none pos) (zft R ta) := by
  intro pins s σ H D I h;obtain ⟨bm, N, nm, q, bs, hdct, sn, sub, ab, col, dd, k0, k1, k2, k3, k5, mN, hC, hN, hni, T, _⟩ := c.obj I.ok.mod.kin
  refine wpAny_Raise_call_subU (C := C) (nm := nm) (q := q) (N := N) (bs := bs) (bm := bm) (hdct := hdct) (sn := sn) (sub := sub) (ab := ab) (col := col) (dd := dd) (k0 := k0) (k1 := k1) (k2 := k2) (k3 := k3) (k5 := k5)
    PySem.F.excBase_ValueError (by decide +kernel) PySem.F.excBase_ValueError (mN := mN) (T.hasType PySem.F.excBase_ValueError.hasBase) (I.ok.hd hc) (by rw [he]; show (false || (backTo cpos (starEach es X.env)).any (·.1)) = false; rw [hpl]; rfl) hni (m7 I hg hm ⟨rfl, ?_⟩ hdb)
  have hrun := ha cpos pins s σ H _ I h;rw [he] at hrun ⊢;refine Calls.evalArgs_plain (wpAny_mono hrun (fun us s1 h1 => ?_) fun _ _ z => z);obtain ⟨vs, H1, I1, r1, hz, q1⟩ := h1;exact ⟨rfl, by rw [<- r1.length]; exact hz, I1.bk _ _ hC, hN.keeps I1.bk, T.keeps I1.bk, fun h' e hx => hr pins σ H1 s1 h' e us s1.toks I1 hx q1⟩
end
section
variable {X : Cx} {pins : List (Addr × Obj)} {σ : St} {H : Hp} {s : Shared}
theorem Inv.intry (I : Inv X pins σ H s) (J : St -> Value -> Hp -> Prop) : Inv (ku X (X.pn ++ pins) J) [] σ H s :=
  ⟨⟨I.ok.mod, I.ok.kind, I.ok.glob, I.ok.blt, I.ok.above, I.ok.inj, I.ok.has, I.ok.cab, I.ok.hd, I.ok.frames, I.ok.stk, I.ok.exf, I.ok.bs, I.ok.bsz, I.ok.noex, I.ok.exfs, I.ok.funs, I.ok.frf⟩, I.os, I.bare, I.base, I.loc, I.cell, I.free, I.freeC, fun p hp => I.pin p (by simpa using hp), I.hok, I.len⟩
theorem Inv.outtry {pl : List (Addr × Obj)} {E : Value -> Shared -> Prop} (I : Inv { X with pn := X.pn ++ pins, xe := E } pl σ H s) : Inv X pins σ H s :=
  ⟨⟨I.ok.mod, I.ok.kind, I.ok.glob, I.ok.blt, I.ok.above, I.ok.inj, I.ok.has, I.ok.cab, I.ok.hd, I.ok.frames, I.ok.stk, I.ok.exf, I.ok.bs, I.ok.bsz, I.ok.noex, I.ok.exfs, I.ok.funs, I.ok.frf⟩, I.os, I.bare, I.base, I.loc, I.cell, I.free, I.freeC, fun p hp => I.pin p (ZV _ hp), I.hok, I.len⟩
theorem SP.outtry {J : St -> Value -> Hp -> Prop} {D : Ends} {f : Flow} {s' : Shared} (h : SP (ku X (X.pn ++ pins) J) [] D f s') : SP X pins D f s' := by
  cases f with
  | next => obtain ⟨a, b, I, q⟩ := h; exact ⟨a, b, I.outtry, q⟩
  | brk => obtain ⟨a, b, I, q⟩ := h; exact ⟨a, b, I.outtry, q⟩
  | cont => obtain ⟨a, b, I, q⟩ := h; exact ⟨a, b, I.outtry, q⟩
  | ret u => obtain ⟨v, a, b, I, r, q⟩ := h; exact ⟨v, a, b, I.outtry, r, q⟩
theorem nw {M : Model} {A : Around} {E : Value -> Shared -> Prop} {i : Nat} {n : Str} {pos : Pos} {Q : Unit -> Shared -> Prop} (I : Inv X pins σ H s) (hN : X.N.Nodup) (hi : X.N[i]? = some n) (hx : X.env.scope.names.lookup n = some .local)
    (h : ∀ s', Inv X pins (σ.set i none) H s' -> Q () s') : wpAny M A (do bindName X.env n .none; unbindBehindTheSuite X.env n pos) Q E s := by
  refine wpAny_bind (wpAny_bindName (kx I hN hi (.inl hx) (v := .non) rfl (fun s1 I1 => ?_) (.inr hx)));obtain ⟨m, hn, hl⟩ := id I1.loc;have hiσ : i < σ.length := by rw [I.len]; exact (Zc.mp hi).1
  obtain ⟨u, ru, lk⟩ := hl i n .non hi (by rw [Yn hiσ]) (.inl hx)
  have hm : ∃ u, m n = some u := by
    rcases lk with ⟨_, e⟩ | ⟨k, _⟩
    . exact ⟨u, e⟩
    . exfalso
      have hk : X.env.kindOf n = some .local := hx
      rcases k with k | k <;> (rw [hk] at k; cases k)
  obtain ⟨u', hu'⟩ := hm;have hcls : (X.env.scope.kind == .class || (X.env.scope.kind == .module && X.env.locals != X.env.globals)) = false := by rw [I.ok.kind]; rfl
  unfold unbindBehindTheSuite;refine wpAny_onRaise (wpAny_unbindName_local hx hn hu' hcls fun h' u2 hn' sb => ?_);obtain ⟨oL, _, _, hoL, _⟩ := id hn;have J : Inv X pins (σ.set i (some .non)) H s1 := I1;refine h _ ⟨J.ok, J.os, J.bare, ⟨fun b o e z hb hx' => ?_, fun b o e z hb hx' => ?_, J.base.free, fun b o e hx' => ?_, J.base.tups, J.base.frzs, J.base.tbls⟩, ⟨_, hn', fun j y v' e1 e2 e3 => ?_⟩, fun y c e => ?_, J.free, J.freeC, fun p hp => ?_, fun b ob e => ?_, by simpa using I.len⟩
  . exact (sb.2 b (Zs (Zh (Heap.lt_size e) J.ok.above))).trans (J.base.keep b o e z hb hx')
  . obtain ⟨sl, e1⟩ := J.base.slot b o e z hb hx'
    exact ⟨sl, (sb.2 b (Zs (Zh (Heap.lt_size e) J.ok.above))).trans e1⟩
  . obtain ⟨o', e1⟩ := J.base.there b o e hx'
    exact ⟨o', (sb.2 b (Zs (Zh (Heap.lt_size e) J.ok.above))).trans e1⟩
  . by_cases hj : j = i
    . subst hj
      rw [Yn hiσ] at e2;cases e2
    . rw [Ys (Ne.symm hj)] at e2
      obtain ⟨w', r', q⟩ := hl j y v' e1 (by rw [Ys (Ne.symm hj)]; exact e2) e3;refine ⟨w', r', ?_⟩
      rcases q with ⟨k, e⟩ | ⟨k, c, e, z⟩
      . refine .inl ⟨k, ?_⟩
        have : y ≠ n := fun e => hj (ic hN e1 (e ▸ hi))
        simp [this, e]
      . exact .inr ⟨k, c, e, z.sameBut sb (J.cne y c e)⟩
  . obtain ⟨w', z⟩ := J.cell y c e
    exact ⟨w', z.sameBut sb (J.cne y c e)⟩
  . obtain ⟨e, z, ne, nf, d⟩ := J.pin p hp
    exact ⟨(sb.2 p.1 ne).trans e, z, ne, nf, d⟩
  . refine (J.hok b ob e).stay (fun c w' hc q => (sb.2 c ?_).trans q) (fun _ q => q) fun _ _ q => q
    rintro rfl
    rcases hc with hc | hc
    . rw [<- hc, J.free] at e; cases e
    . rw [J.free] at hc; cases hc
def g8 (i : Nat) (D : Ends) : Ends := { nx := fun σ H => D.nx (σ.set i none) H, rt := D.rt, bk := fun σ H => D.bk (σ.set i none) H, ct := fun σ H => D.ct (σ.set i none) H }
def zdz (K : Fg) (D0 : Addr) (i : Nat) (tb : (St -> Value -> Hp -> Prop) -> List (Addr × Obj) -> TS) (ts : Value -> TS) : TS := fun D σ H => ∃ J : St -> Value -> Hp -> Prop, (∀ pn, tb J pn D σ H) /\
  ∀ σ1 c H1, J σ1 c H1 -> ∃ C, c = .ref C /\ Err K C /\ PySem.W.mroIn K C (.ref D0) = some true /\ ∀ e ea, H1 ea = none -> ts e (g8 i D) (σ1.set i (some (.ref ea))) (upd H1 ea (ExcO ea C))
theorem zdw {body : List Stmt} {b0 : Stmt} {suite : List Stmt} {x n : Str} {np hpos pos : Pos} {D0 : Addr} {i : Nat} {tb : (St -> Value -> Hp -> Prop) -> List (Addr × Obj) -> TS} {ts : Value -> TS} (cD : Err X.K D0) (hg : Gl X x) (hm : X.mg x = some (.ref D0)) (hN : X.N.Nodup) (hi : X.N[i]? = some n) (hx : X.env.scope.names.lookup n = some .local)
    (hb : ∀ J pn, PSs (ku X pn J) body (tb J pn)) (hs : ∀ e, PSs (X.suite e) (b0 :: suite) (ts e)) (hst : X.stack = X.env :: X.outer := by rfl) (hf : X.env.frame = some X.env.locals := by rfl) (hex : X.ex = [] := by rfl) (hdb : (x == ("__debug__" : Str)) = false := by decide) :
    PS X (.Try body [.ExceptHandler (some (.Name x np)) (some n) (b0 :: suite) hpos] [] [] pos) (zdz X.K D0 i tb ts) := by
  intro pins s σ H D I h;obtain ⟨J, hbody, hcatch⟩ := h;refine wpAny_Try_except (wpAny_mono (hb J (X.pn ++ pins) [] s σ H D (I.intry J) (hbody _)) (fun f s1 h1 => ?_) fun e s1 h1 => ?_)
  . have h2 := SP.outtry h1
    cases f with
    | next =>
      obtain ⟨a, b, I1, q⟩ := h2;exact wpAny_execs_nil ⟨a, b, I1, q⟩
    | brk => exact h2
    | cont => exact h2
    | ret u => exact h2
  . obtain ⟨pins', σ1, H1, s2, I2, hcx⟩ := h1
    have J2 : Inv X pins σ1 H1 s2 := I2.outtry;obtain ⟨ea, C, a0, B, H', e1, os, bare, un, hok, fl, hea, dom, dom2, hJ⟩ := hcx;subst e1;obtain ⟨C2, eC, cC, hsub, hsuite⟩ := hcatch σ1 _ H' hJ;obtain rfl : C = C2 := by injection eC
    have hfr0 : X.A.frames = some (X.env :: X.outer) := by rw [<- hst]; exact I.ok.frames
    have fl0 : Heap.FlyingW B (X.env :: X.outer) ea (.ref C) a0 s1.heap := by rw [<- hst]; exact fl
    have hfr : ∀ b ∈ frs X.stack, ∀ o, s1.heap.get? b = some o -> ∀ vs, o.data ≠ .fields vs := fun b hb o q => by
      obtain ⟨_, o', e', n'⟩ := fl.2.2.1.mem hb;rw [q] at e'; cases e';exact n'
    have old_ne : ∀ b o, s2.heap.get? b = some o -> b ≠ ea := fun b o q z => by
      by_cases hbf : b ∈ frs X.stack
      . obtain ⟨oe, vs, T, oT, ts', he, _, hd, _⟩ := fl.2.2.2
        rw [<- z] at he;exact hfr b hbf oe he vs hd
      . obtain ⟨ob, k1, _⟩ := dom2 b o q hbf
        rw [z, fl.2.1] at k1; cases k1
    refine wpAny_looks_onW hfr0 hf fl0 fun h4 held4 sm4 => ?_
    refine wpAny_landsW held4 fun h5 fl5 sm5 => ?_
    have at5 : ∀ {h6 : Heap} {sx : Shared}, sx.heap = h6 -> sx.os = s1.os -> sx.gens = s1.gens -> B.StaysIn h6 -> s1.heap.UpToSlots h6 -> Inv X pins σ1 H' sx := fun {h6 sx} e1 e2 e3 k1 k2 => by
      subst e1;exact J2.call' (ch := []) (e2.trans os) (ix un dom2 k1 k2 hfr) (HOk.flown hok fl.1 k1 dom) (by rw [e3]; exact bare) (fun b z => absurd z (by simp))
    have I5 : Inv X pins σ1 H' { s1 with heap := h5 } := at5 (sx := { s1 with heap := h5 }) rfl rfl rfl fl5.1 (sm4.trans sm5);obtain ⟨oe5, he5, hc5⟩ := fl5.there;refine wpAny_handleBy_cons (codeAny_handlers_test (m7 (I5.suite (.ref ea)) hg hm ?_ hdb)) (by intro q; cases q);refine fi I5.kIn cC cD he5 hc5 hsub ?_
    show codeAny _ _ _ _ _
    refine codeAny_handlers_suite_as ?_;refine lands_againW fl5 fun h6 fl6 sm6 => ?_
    have I6 : Inv X pins σ1 H' { s1 with heap := h6 } := at5 (sx := { s1 with heap := h6 }) rfl rfl rfl fl6.1 ((sm4.trans sm5).trans sm6)
    have I7 : Inv X pins σ1 (upd H' ea (ExcO ea C)) { s1 with heap := h6 } := by
      obtain ⟨oe, vs, T, oT, ts', he, ⟨hcl, _⟩, hd, _⟩ := fl6.2.2.2;refine I6.track he hea ?_ ?_ (fun y c q => ?_) (fun p hp => ?_) ?_
      . cases q : X.s₀.heap.get? ea with
        | none => rfl
        | some o =>
          obtain ⟨o', q'⟩ := J2.base.there ea o q (by rw [hex]; simp);exact absurd rfl (old_ne ea o' q')
      . obtain ⟨m, ⟨o, _, _, ho, _⟩, _⟩ := J2.loc
        exact Ne.symm (old_ne _ o ho)
      . obtain ⟨v, o, ho, _⟩ := J2.cell y c q
        exact old_ne c o ho
      . exact old_ne _ _ (J2.pin p hp).1
      . refine ⟨⟨oe, he, hcl, vs, hd⟩, ⟨oe, he⟩, fun h1 h2 k1 k2 => ?_⟩
        obtain ⟨o, z1, z2⟩ := k1;exact ⟨o, k2 o z1, z2⟩
    refine kx (X := X.suite (.ref ea)) (I7.suite (.ref ea)) hN hi (.inl hx) (v := .ref ea) rfl (fun s8 I8 => ?_) (.inr hx);refine wpAny_mono (hs (.ref ea) pins s8 _ _ (g8 i D) I8 (hsuite _ ea hea)) (fun f s9 h9 => ?_) fun _ _ z => z.elim
    show wpAny _ _ _ _ _ _
    cases f with
    | next =>
      obtain ⟨σ9, H9, I9, q9⟩ := h9;exact nw (I9.unsuite I.ok.hd) hN hi hx fun s' I' => ⟨_, _, I', q9⟩
    | brk =>
      obtain ⟨σ9, H9, I9, q9⟩ := h9;exact nw (I9.unsuite I.ok.hd) hN hi hx fun s' I' => ⟨_, _, I', q9⟩
    | cont =>
      obtain ⟨σ9, H9, I9, q9⟩ := h9;exact nw (I9.unsuite I.ok.hd) hN hi hx fun s' I' => ⟨_, _, I', q9⟩
    | ret u =>
      obtain ⟨v9, σ9, H9, I9, r9, q9⟩ := h9;exact nw (I9.unsuite I.ok.hd) hN hi hx fun s' I' => ⟨_, _, _, I', r9, q9⟩
def tTry0 (K : Fg) (D0 : Addr) (tb : (St -> Value -> Hp -> Prop) -> List (Addr × Obj) -> TS) (ts : Value -> TS) : TS := fun D σ H => ∃ J : St -> Value -> Hp -> Prop, (∀ pn, tb J pn D σ H) /\
  ∀ σ1 c H1, J σ1 c H1 -> ∃ C, c = .ref C /\ Err K C /\ PySem.W.mroIn K C (.ref D0) = some true /\ ∀ e, ts e D σ1 H1
theorem suK {e : Value} : (X.suite e).K = X.K := rfl
theorem noxK : X.nox.K = X.K := rfl
theorem tryK {pn : List (Addr × Obj)} {J : St -> Value -> Hp -> Prop} : (ku X pn J).K = X.K := rfl
theorem zhf {K : Fg} {D0 : Addr} {i : Nat} {tb : (St -> Value -> Hp -> Prop) -> List (Addr × Obj) -> TS} {ts : Value -> TS} {D : Ends} : zdz K D0 i tb ts D σ H = ∃ J : St -> Value -> Hp -> Prop, (∀ pn, tb J pn D σ H) /\
  ∀ σ1 c H1, J σ1 c H1 -> ∃ C, c = .ref C /\ Err K C /\ PySem.W.mroIn K C (.ref D0) = some true /\ ∀ e ea, H1 ea = none -> ts e (g8 i D) (σ1.set i (some (.ref ea))) (upd H1 ea (ExcO ea C)) := rfl
theorem e_try0 {K : Fg} {D0 : Addr} {tb : (St -> Value -> Hp -> Prop) -> List (Addr × Obj) -> TS} {ts : Value -> TS} {D : Ends} : tTry0 K D0 tb ts D σ H = ∃ J : St -> Value -> Hp -> Prop, (∀ pn, tb J pn D σ H) /\
  ∀ σ1 c H1, J σ1 c H1 -> ∃ C, c = .ref C /\ Err K C /\ PySem.W.mroIn K C (.ref D0) = some true /\ ∀ e, ts e D σ1 H1 := rfl
end
end L2
namespace L2
open PySem PySem.Spec PyProof.Rows
structure ErrQ (K : Fg) (C : Addr) : Prop extends Err K C where
  ga : PySem.W.findIn K (.ref C) "__getattribute__" = some (some (.builtin "BaseException.__getattribute__"))
  gn : PySem.W.findIn K (.ref C) "__getattr__" = some none
  gc : PySem.W.findIn K (.ref C) "__class__" = some (some (.builtin "object.__class__"))
section
variable {prog : Program} {w : World} {A : Around} {E : Value -> Shared -> Prop} {h : Heap} {g : Array GenState} {d : Drawn} {t : Nat} {os : OsState} {a C : Addr} {o : Obj} {K : Fg}
theorem zcu {R : Result -> Shared -> Prop} (X : K.In h) (c : ErrQ K C) (hx : h.get? a = some o) (hc : o.cls = .ref C) (hq : R (.ok (.ret (.ref C))) ⟨h, g, d, t, os⟩) :
    codeAny (model prog w) A (.call (.builtin "getset_descriptor.__get__") ⟨[.builtin "object.__class__", .ref a, .ref C], []⟩) R ⟨h, g, d, t, os⟩ := by
  obtain ⟨bm, N, nm, q, bs, hdct, sn, sub, ab, col, dd, k0, k1, k2, k3, k5, mN, hC, hN, hni, T, _⟩ := c.obj X;have hT5 : (⟨h, g, d, t, os⟩ : Shared).TypeIs (.builtin "object.__class__") "getset_descriptor" := F.typeOf_object_class;have hcO : (Value.ref C :: bm).contains (.type (".".intercalate ("object.__class__".cutAt '.').dropLast)) = true := by rw [F.owner_object_class, YL, T.hasType (X := "object") (b := true) (by decide +kernel), Bool.or_true]
  refine codeAny_call_builtin F.slot_gs_get.plain F.entry_gs_get (F.slot_gs_get.check _ _ _ _ _ _ _ _ hT5 (F.args_gs_get _ _ _) ?_)
  repeat (any_goals (first | assumption | (with_reducible refine wpAny_loadPart_at hx ?_; rw [hc]) | (with_reducible refine wpAny_isSubtype_exc hC ?_; rw [hcO]) | wp_step))
  refine ⟨Code.quiet_builtin _ (by decide +kernel), codeAny_builtin F.entry_object_class ?_⟩
  repeat (any_goals (first | assumption | (with_reducible refine wpAny_loadPart_at hx ?_; rw [hc]) | wp_step))
theorem az {tk : Tok} {Q : Fin -> Shared -> Prop} (X : K.In h) (c : ErrQ K C) (hx : h.get? a = some o) (hc : o.cls = .ref C) (hq : Q (.done (.ret (.ref C))) ⟨h, g, d, t, os⟩) :
    wpAny (model prog w) A (Builtin.«object.__getattribute__» ⟨[.ref a, .str "__class__" tk], []⟩) Q E ⟨h, g, d, t, os⟩ := by
  have hT5 : (⟨h, g, d, t, os⟩ : Shared).TypeIs (.builtin "object.__class__") "getset_descriptor" := F.typeOf_object_class;have L1 := PySem.W.looks_findIn (M := model prog w) X c.gc;have f5 := F.typeOf_object_class;have f6 := F.slot_gs_get.lookup;have f7 := F.slot_gs_set.lookup
  repeat (any_goals (first | assumption | (with_reducible refine wpAny_loadPart_at hx ?_; rw [hc]) | with_reducible refine L1.at ?_ | wp_step))
  refine zcu X c hx hc ?_
  repeat (any_goals (first | assumption | wp_step))
theorem ay {M : Model} {nameV : Value} {Q : Unit -> Shared -> Prop} (X : K.In h) (c : ErrQ K C) (hx : h.get? a = some o) (hc : o.cls = .ref C) (hq : Q () ⟨h, g, d, t, os⟩) : wpAny M A (checkBuiltinCall "BaseException.__getattribute__" ⟨[.ref a, nameV], []⟩) Q E ⟨h, g, d, t, os⟩ := by
  obtain ⟨bm, N, nm, q, bs, hdct, sn, sub, ab, col, dd, k0, k1, k2, k3, k5, mN, hC, hN, hni, T, _⟩ := c.obj X;have hk : builtinKind "BaseException.__getattribute__" = some .slot := by decide +kernel
  have hsplit : splitId "BaseException.__getattribute__" = some ("BaseException", "__getattribute__") := by decide +kernel
  have hcB : (Value.ref C :: bm).contains (.type "BaseException") = true := by rw [YL, T.hasType (X := "BaseException") (b := true) (by decide +kernel), Bool.or_true]
  have ha := F.args_bexc_ga (.ref a) nameV;simp only [checkBuiltinCall, hk, hsplit];refine wpAny_bind ?_;unfold isInstance
  repeat (first | (with_reducible refine wpAny_loadPart_at hx ?_; rw [hc]) | (with_reducible refine wpAny_isSubtype_exc hC ?_; rw [hcB]) | wp_step)
  exact hq
theorem zbe {tk : Tok} {R : Result -> Shared -> Prop} (X : K.In h) (c : ErrQ K C) (hx : h.get? a = some o) (hc : o.cls = .ref C) (hq : R (.ok (.ret (.ref C))) ⟨h, g, d, t, os⟩) :
    codeAny (model prog w) A (.call (.builtin "BaseException.__getattribute__") ⟨[.ref a, .str "__class__" tk], []⟩) R ⟨h, g, d, t, os⟩ :=
  codeAny_call_builtin F.attrBase_ValueError.ga.plain F.entry_bexc_ga (ay X c hx hc (az X c hx hc hq))
theorem zeu {tk : Tok} {Q : Value -> Shared -> Prop} (X : K.In h) (c : ErrQ K C) (hx : h.get? a = some o) (hc : o.cls = .ref C) (hq : Q (.ref C) ⟨h, g, d, t, os⟩) : wpAny (model prog w) A (getAttrBy (.ref a) (.str "__class__" tk) false) Q E ⟨h, g, d, t, os⟩ := by
  have f3 := F.attrBase_ValueError.ga.bind (.ref a);have L1 := PySem.W.looks_findIn (M := model prog w) X c.ga;have L2' := PySem.W.looks_findIn (M := model prog w) X c.gn;have hx2 : (Value.builtin "BaseException.__getattribute__" == Value.builtin "object.__getattribute__") = false := by decide +kernel
  have hx1 : (onTheHeap (Value.ref C) && Value.builtin "BaseException.__getattribute__" == Value.builtin "object.__getattribute__") = false := by rw [hx2]; rfl
  repeat (any_goals (first | assumption | (with_reducible refine wpAny_loadPart_at hx ?_; rw [hc]) | with_reducible refine L1.at ?_ | with_reducible refine L2'.at ?_ | wp_step))
  refine zbe X c hx hc ?_
  repeat (any_goals (first | assumption | wp_step))
theorem za8 {Q : Option Value -> Shared -> Prop} (X : K.In h) (c : ErrQ K C) (hx : h.get? a = some o) (hc : o.cls = .ref C) (hq : Q (some (.ref C)) ⟨h, g, d, t + 1, os⟩) : wpAny (model prog w) A (getAttr? (.ref a) "__class__") Q E ⟨h, g, d, t, os⟩ := by
  unfold getAttr? getAttrBy?
  repeat (any_goals (first | assumption | with_reducible apply zeu X c hx hc | wp_step))
end
def ExcAt (a C : Addr) (h : Heap) : Prop := ∃ o, h.get? a = some o /\ o.cls = .ref C
theorem iq {K : Fg} {a C : Addr} (c : ErrQ K C) : PySem.W.KitX K (.ref a) (.ref C) (ExcAt a C) where
  ty := fun M h X p => by
    obtain ⟨o, h1, h2⟩ := p;exact h2 ▸ (PySem.W.Looks.ld h1).andThen .now
  it := fun M h X p => by
    obtain ⟨bm, N, nm, q, bs, hdct, sn, sub, ab, col, dd, k0, k1, k2, k3, k5, mN, hC, hN, hni, T, _⟩ := c.obj X;intro A' Q' E' s' k q;unfold isType loadHead;exact wpAny_bind (wpAny_loadPart (k _ _ hC) (wpAny_pure q))
  ne := fun h tp dd its n sl X htp => by
    obtain ⟨bm, N, nm, q, bs, hdct, sn, sub, ab, col, dd, k0, k1, k2, k3, k5, mN, hC, hN, hni, T, _⟩ := c.obj X;refine Bool.eq_false_iff.mpr fun q => ?_
    have e : C = tp := Value.ref.inj (beq_iff_eq.mp q);subst e;rw [hC] at htp;have hcl := congrArg Obj.cls (Option.some.inj htp)
    revert hcl
    show Value.type "type" = Value.type "tuple" -> False
    intro hcl
    injection hcl with hcl
    exact absurd hcl (by decide)
  ca := fun {_ _ _ _ _ s} X p k => by
    obtain ⟨o, h1, h2⟩ := p;obtain ⟨h, g, d, t, os⟩ := s;exact za8 X c h1 h2 k
section
variable {X : Cx} {pins : List (Addr × Obj)} {σ : St} {H : Hp} {s : Shared}
theorem Inv.exc {ea C : Addr} (I : Inv X pins σ H s) (h : H ea = some (ExcO ea C)) : ExcAt ea C s.heap := by
  have q : ObjOk X.prog X.w H s.heap ea (ExcO ea C) := I.hok ea _ h;obtain ⟨⟨o, h1, h2, _⟩, _⟩ := q;exact ⟨o, h1, h2⟩
theorem zal : xt X (.builtin "isinstance") (fun xs H Q => ∃ ea C D b, xs = [.ref ea, .ref D] /\ H ea = some (ExcO ea C) /\ ErrQ X.K C /\ PySem.W.kitOne X.K (.ref C) (.ref D) = some b /\ Q (.bl b) H) := by
  intro pins s σ H xs us Q I r h;obtain ⟨ea, C, D, b, rfl, he, c, e, q⟩ := h;obtain ⟨u, v, rfl, rx, ry⟩ := Vals.two r;cases rx; cases ry;exact PySem.W.kia_one (iq c) I.kIn (I.exc he) e (fun z => nomatch z) fun tk => ⟨.bl b, H, I.tok _, rfl, q⟩
theorem zan : xt X (.builtin "isinstance") (fun xs H Q => ∃ ea C T b, xs = [.ref ea, .ty T] /\ H ea = some (ExcO ea C) /\ ErrQ X.K C /\ PySem.W.kitOne X.K (.ref C) (.type T) = some b /\ Q (.bl b) H) := by
  intro pins s σ H xs us Q I r h;obtain ⟨ea, C, D, b, rfl, he, c, e, q⟩ := h;obtain ⟨u, v, rfl, rx, ry⟩ := Vals.two r;cases rx; cases ry;exact PySem.W.kia_one (iq c) I.kIn (I.exc he) e (fun z => nomatch z) fun tk => ⟨.bl b, H, I.tok _, rfl, q⟩
theorem di : ∀ {Ds : List Addr} {us : List Value}, Vals (Ds.map V.ref) us -> us = Ds.map Value.ref
  | [], _, .nil => rfl
  | D :: Ds, _, .cons r t => by
    rw [di t];cases r;rfl
theorem k7 : xt X (.builtin "isinstance") (fun xs H Q => ∃ (ea C tp : Addr) (Ds : List Addr) (b : Bool), xs = [.ref ea, .ref tp] /\ H ea = some (ExcO ea C) /\ ErrQ X.K C /\ SqT X.K H tp (Ds.map V.ref) /\ PySem.W.kitAny X.K (.ref C) (Ds.map Value.ref) = some b /\ Q (.bl b) H) := by
  intro pins s σ H xs us Q I r h;obtain ⟨ea, C, tp, Ds, b, rfl, he, c, ht, e, q⟩ := h;obtain ⟨u, v, rfl, rx, ry⟩ := Vals.two r;cases rx; cases ry;obtain ⟨its, rv, ⟨o, ho, hc, n, hd⟩, hz⟩ := I.tuple ht;have ei := di rv;subst ei;obtain ⟨ocls, odict, odata, oslots⟩ := o;dsimp only at hc hd;subst hc hd;exact PySem.W.kia_tup (iq c) I.kIn (I.exc he) ho e (fun z => nomatch z) fun tk => ⟨.bl b, H, I.tok _, rfl, q⟩
end
theorem d9 : bootBuiltins "ValueError" = some (.type "ValueError") := by decide +kernel
theorem bj {K : Fg} {h : Heap} {mg : Str -> Option Value} (X : K.In h) (G : h.Ns mainGlobals mg) {name : Str} {C : Addr} (e : PySem.W.nsIn K mainGlobals name = some (some (.ref C))) (q : PySem.W.excIn K C VE "ValueError.__new__" = true)
    (g1 : PySem.W.findIn K (.ref C) "__getattribute__" = some (some (.builtin "BaseException.__getattribute__"))) (g2 : PySem.W.findIn K (.ref C) "__getattr__" = some none) (g3 : PySem.W.findIn K (.ref C) "__class__" = some (some (.builtin "object.__class__"))) :
    mg name = some (.ref C) /\ ErrQ K C := ⟨PySem.W.mg_of X G e, ⟨⟨q⟩, g1, g2, g3⟩⟩
theorem zf7 {K : Fg} {C : Addr} : PySem.W.kitOne K (.ref C) (.ref C) = some true := by
  unfold PySem.W.kitOne;rw [if_pos (by simp)]
theorem u6 {K : Fg} {C D : Addr} {cd : ClassData} {b : Bool} (h0 : (Value.ref C == Value.ref D) = false) (h1 : PySem.W.clsIn K D = some cd) (h2 : PySem.W.typeIn K (.ref D) = some (.type "type")) (h3 : PySem.W.subIn K (.ref C) (.ref D) = some b) : PySem.W.kitOne K (.ref C) (.ref D) = some b := by
  unfold PySem.W.kitOne PySem.W.kitCls;rw [if_neg (by rw [h0]; simp)]
  show (if ((PySem.W.clsIn K D).isSome && PySem.W.typeIn K (.ref D) == some (.type "type")) = true then PySem.W.subIn K (.ref C) (.ref D) else none) = some b
  rw [h1, h2, if_pos (by simp)];exact h3
theorem zgs {K : Fg} {C : Addr} {b : Bool} (h3 : PySem.W.subIn K (.ref C) (.type "ValueError") = some b) : PySem.W.kitOne K (.ref C) (.type "ValueError") = some b := by
  unfold PySem.W.kitOne PySem.W.kitCls;rw [if_neg (by simp)]
  show (if PySem.W.kitMeta "ValueError" = true then PySem.W.subIn K (.ref C) (.type "ValueError") else none) = some b
  rw [if_pos (by decide +kernel)];exact h3
def zd9 (K : Fg) (C : Addr) : List Addr -> Prop
  | [] => True
  | D :: Ds => PySem.W.kitOne K (.ref C) (.ref D) = some false /\ zd9 K C Ds
theorem mi {K : Fg} {C : Addr} : ∀ {Ds : List Addr}, zd9 K C Ds -> PySem.W.kitAny K (.ref C) (Ds.map Value.ref) = some false
  | [], _ => rfl
  | D :: Ds, h => by
    show PySem.W.kitAny K (.ref C) (Value.ref D :: Ds.map Value.ref) = some false
    unfold PySem.W.kitAny;rw [h.1];exact mi h.2
theorem Same.seqT {K : Fg} {H H' : Hp} {a : Addr} {xs : List V} (e : Same H H') (h : SqT K H a xs) : SqT K H' a xs := by
  rcases h with (h | ⟨o, h⟩) | h
  . exact .inl (.inl (e _ _ h))
  . exact .inl (.inr ⟨o, e _ _ h⟩)
  . exact .inr h
end L2
namespace L2
open PySem PySem.Spec PyProof.Rows
inductive Tr where
  | lf (v : V) | ls (ts : List Tr) | tp (ts : List Tr)
mutual
def TrAt (K : Fg) (H : Hp) : Tr -> V -> Prop
  | .lf v, x => x = v /\ xr v = true
  | .ls ts, x => ∃ a xs, x = .ref a /\ SqL K H a xs /\ iy K H ts xs
  | .tp ts, x => ∃ a xs, x = .ref a /\ SqT K H a xs /\ iy K H ts xs
def iy (K : Fg) (H : Hp) : List Tr -> List V -> Prop
  | [], xs => xs = []
  | t :: ts, xs => ∃ y ys, xs = y :: ys /\ TrAt K H t y /\ iy K H ts ys
end
mutual
def eqTr : Tr -> Tr -> Bool
  | .lf v, .lf w => eqV v w
  | .ls ts, .ls us => zc2 ts us
  | .tp ts, .tp us => zc2 ts us
  | _, _ => false
def zc2 : List Tr -> List Tr -> Bool
  | [], [] => true
  | t :: ts, u :: us => eqTr t u && zc2 ts us
  | _, _ => false
end
mutual
def deep : Tr -> Nat
  | .lf _ => 0
  | .ls ts => gy ts + 1
  | .tp ts => gy ts + 1
def gy : List Tr -> Nat
  | [] => 0
  | t :: ts => max (deep t) (gy ts)
end
section
variable {X : Cx} {pins : List (Addr × Obj)} {σ : St} {H : Hp} {s : Shared}
end
section
variable {X : Cx}
def SameK : Tr -> Tr -> Prop
  | .ls _, .ls _ => True
  | .tp _, .tp _ => True
  | _, _ => False
def rEqD (K : Fg) (n : Nat) (neg : Bool) (x y : V) (H : Hp) (Q : VK) : Prop := ∃ t t', SameK t t' /\ TrAt K H t x /\ TrAt K H t' y /\ deep t <= n /\ deep t' <= n /\ Q (.bl (neg ^^ eqTr t t')) H
end
section
variable {X : Cx} {pins : List (Addr × Obj)} {σ : St} {H : Hp} {s : Shared}
open Classical in
end
section
variable {X : Cx}
def inTr (t : Tr) (ts : List Tr) : Bool := ts.any fun u => eqTr u t
def rInD (K : Fg) (n : Nat) (neg : Bool) : R2 := fun x y H Q => ∃ p xs ts t, y = .ref p /\ (SqL K H p xs \/ SqT K H p xs) /\ iy K H ts xs /\ TrAt K H t x /\ deep t <= n /\ gy ts <= n /\ Q (.bl (neg ^^ inTr t ts)) H
end
theorem e_eqD {K : Fg} {n : Nat} {neg : Bool} {x y : V} {H : Hp} {Q : VK} : rEqD K n neg x y H Q = ∃ t t', SameK t t' /\ TrAt K H t x /\ TrAt K H t' y /\ deep t <= n /\ deep t' <= n /\ Q (.bl (neg ^^ eqTr t t')) H := rfl
theorem e_inD {K : Fg} {n : Nat} {neg : Bool} {x y : V} {H : Hp} {Q : VK} : rInD K n neg x y H Q = ∃ p xs ts t, y = .ref p /\ (SqL K H p xs \/ SqT K H p xs) /\ iy K H ts xs /\ TrAt K H t x /\ deep t <= n /\ gy ts <= n /\ Q (.bl (neg ^^ inTr t ts)) H := rfl
end L2
namespace L2
open PySem PySem.Spec PyProof.Rows
def chr1 (c : Nat) : Str := ⟨#[c]⟩
def Itw (x : Str) : It := ⟨fun i _ => i < x.cps.size, fun i H v H' => H' = H /\ ∃ c, x.cps[i]? = some c /\ v = .str (chr1 c), fun i _ => x.cps.size <= i⟩
theorem zfn {P : Program} {w : World} {K : Fg} {tg : Expr} (it : Addr) (x : Str) (t : Tok) : Turn P w K tg (Itw x) [it] it (fun i h => h.IsStrIter it "str_ascii_iterator" x t i) where
  mem := by simp
  obj := fun i h st b hb => by
    have e : b = it := by simpa using hb
    subst e;obtain ⟨o, e, c, d⟩ := st;exact ⟨o, e, fun v z => by rw [d] at z; cases z⟩
  keep := fun i h h' st k => by
    obtain ⟨o, e, r⟩ := st;exact ⟨o, k it (by simp) o e, r⟩
  item := by
    intro X hP hw hK hc i pins s σ H E I hf st hg;subst hP hw hK;have hi : i < x.cps.size := hg;obtain ⟨f0, f1, f2, f3, f4, f5⟩ := hf it (by simp);refine wpAny_pyNext_ascii_item st (c := x.cps[i]) (by simp [hi]) fun h' st' sb => ?_
    have I1 : Inv X pins σ H { s with heap := h', toks := s.toks + 1 } := I.turned (t' := s.toks + 1) (fun b o hb e => (sb.2 b hb).trans e) f0 f1 f3 f4 f5;obtain ⟨o, e, c, d⟩ := id st';exact ⟨_, rfl, js (s := { s with heap := h', toks := s.toks + 1 }) e c d (by decide) ⟨.str (chr1 x.cps[i]), H, I1, ⟨_, rfl⟩, ⟨rfl, _, by simp [hi], rfl⟩, st', fun b hb => (hf b hb).1⟩⟩
  done := by
    intro X hP hw hK hc i pins s σ H E I hf st hg;subst hP hw hK;have hi : x.cps.size <= i := hg;obtain ⟨f0, f1, f2, f3, f4, f5⟩ := hf it (by simp);exact wpAny_pyNext_ascii_end (I.ok.hd hc) st (by simp [hi]) fun h' eb => ⟨rfl, I.turned (t' := s.toks) (fun b o hb e => eb b o hb e) f0 f1 f3 f4 f5⟩
  self := fun _ _ _ _ _ st h => wpAny_pyIter_striter_ascii st h
theorem zev {P : Program} {w : World} {K : Fg} {tg : Expr} (it : Addr) (x : Str) (t : Tok) : Turn P w K tg (Itw x) [it] it (fun i h => h.IsStrIter it "str_iterator" x t i) where
  mem := by simp
  obj := fun i h st b hb => by
    have e : b = it := by simpa using hb
    subst e;obtain ⟨o, e, c, d⟩ := st;exact ⟨o, e, fun v z => by rw [d] at z; cases z⟩
  keep := fun i h h' st k => by
    obtain ⟨o, e, r⟩ := st;exact ⟨o, k it (by simp) o e, r⟩
  item := by
    intro X hP hw hK hc i pins s σ H E I hf st hg;subst hP hw hK;have hi : i < x.cps.size := hg;obtain ⟨f0, f1, f2, f3, f4, f5⟩ := hf it (by simp);refine wpAny_pyNext_wide_item st (c := x.cps[i]) (by simp [hi]) fun h' st' sb => ?_
    have I1 : Inv X pins σ H { s with heap := h', toks := s.toks + 1 } := I.turned (t' := s.toks + 1) (fun b o hb e => (sb.2 b hb).trans e) f0 f1 f3 f4 f5;obtain ⟨o, e, c, d⟩ := id st';exact ⟨_, rfl, js (s := { s with heap := h', toks := s.toks + 1 }) e c d (by decide) ⟨.str (chr1 x.cps[i]), H, I1, ⟨_, rfl⟩, ⟨rfl, _, by simp [hi], rfl⟩, st', fun b hb => (hf b hb).1⟩⟩
  done := by
    intro X hP hw hK hc i pins s σ H E I hf st hg;subst hP hw hK;have hi : x.cps.size <= i := hg;obtain ⟨f0, f1, f2, f3, f4, f5⟩ := hf it (by simp);exact wpAny_pyNext_wide_end (I.ok.hd hc) st (by simp [hi]) fun h' eb => ⟨rfl, I.turned (t' := s.toks) (fun b o hb e => eb b o hb e) f0 f1 f3 f4 f5⟩
  self := fun _ _ _ _ _ st h => wpAny_pyIter_striter_wide st h
def iStr (a : TE) : TI := fun σ H R => a σ H fun x H1 => ∃ z, x = .str z /\ R (Itw z) H1
theorem pi_str {X : Cx} {tg l : Expr} {tl : TE} (hl : PE X l tl) : PI X tg l (iStr tl) := by
  intro pins s σ H R I h;refine thn (hl pins s σ H _ I h) fun v s1 ⟨x, H1, I1, r1, q1⟩ => ?_
  obtain ⟨z, e, q⟩ := q1;subst e;obtain ⟨t, rfl⟩ := r1;refine wpAny_pyIter_strU ?_
  have fin : ∀ {tn : Nat -> Heap -> Prop}, Turn X.prog X.w X.K tg (Itw z) [s1.heap.objs.size] s1.heap.objs.size tn -> tn 0 (s1.heap.push { cls := .type (strIterType z), data := .fields #[.str z t, .int 0 0] }) ->
      PIE X pins σ tg R (.ref s1.heap.objs.size) { s1 with heap := s1.heap.push { cls := .type (strIterType z), data := .fields #[.str z t, .int 0 0] } } := fun {tn} T h0 => by
    refine ⟨s1.heap.objs.size, [s1.heap.objs.size], _, _, H1, rfl, I1.kept (t' := s1.toks) fun b o e => Heap.get?_push_of_some _ e, T, h0, fun b hb => ?_, q⟩;have e : b = s1.heap.objs.size := by simpa using hb
    subst e;exact I1.fpOk (Zm _) (I1.hok.fresh (Zm _))
  cases ha : z.cps.all (· < 128) with
  | true =>
    have e : strIterType z = "str_ascii_iterator" := by simp [strIterType, ha]
    refine fin (zfn _ z t) ?_;exact ⟨_, Heap.get?_push_size _ rfl, by rw [e], rfl⟩
  | false =>
    have e : strIterType z = "str_iterator" := by simp [strIterType, ha]
    refine fin (zev _ z t) ?_;exact ⟨_, Heap.get?_push_size _ rfl, by rw [e], rfl⟩
theorem e_iStr {a : TE} {σ : St} {H : Hp} {R : It -> Hp -> Prop} : iStr a σ H R = a σ H fun x H1 => ∃ z, x = .str z /\ R (Itw z) H1 := rfl
def xf (z : Str) (n : Nat) : Str := ⟨(List.replicate n z.cps.toList).flatten.toArray⟩
theorem zes : ∀ (n : Nat) (a acc : Array Nat), (List.replicate n a).foldl (· ++ ·) acc = acc ++ (List.replicate n a.toList).flatten.toArray := by
  intro n
  induction n with
  | zero => intro a acc; simp
  | succ n ih =>
    intro a acc;rw [YJ, List.foldl_cons, ih, YJ, List.flatten_cons]
    apply Array.ext'
    simp
theorem mul_is (z : Str) (n : Int) : Txt.mul z n = xf z n.toNat := by
  unfold Txt.mul xf
  by_cases h : n < 1
  . rw [if_pos h, show n.toNat = 0 by omega]; rfl
  . rw [if_neg h]
    by_cases h2 : (n == 1 || z.length == 0) = true
    . rw [if_pos h2]
      rcases Bool.or_eq_true _ _ ▸ h2 with q | q
      . have : n = 1 := by simpa using q
        subst this
        show z = _
        have : (1 : Int).toNat = 1 := rfl;rw [this];simp
      . have e : z.cps.size = 0 := by simpa [Str.length] using q
        have e2 : z.cps = #[] := Array.eq_empty_of_size_eq_zero e;obtain ⟨c⟩ := z;simp only at e2;subst e2;simp
    . rw [if_neg h2, zes]
      simp
section
variable {X : Cx}
def rMulS : R2 := fun x y H Q => ∃ z n, x = .str z /\ y = .int n /\ -(2 ^ 62) <= n /\ n < 2 ^ 31 /\ z.length * n.toNat <= 2 ^ 20 /\ Q (.str (xf z n.toNat)) H
theorem f8 : OpR X (binaryOp .Mult) rMulS := by
  intro pins s σ H x y v u Q I rx ry h;obtain ⟨z, n, rfl, rfl, h1, h2, h3, q⟩ := h;obtain ⟨t, rfl⟩ := rx;obtain ⟨t', rfl⟩ := ry;refine SB.mul ⟨?_, fun h4 h5 => ?_, fun h4 h5 => ?_⟩ fun tk k => ?_
  . rw [decide_eq_false (by omega), decide_eq_false (by omega)]; rfl
  . intro h6
    have h7 : (z.length : Int) * n <= 2 ^ 20 := by
      have : ((z.length * n.toNat : Nat) : Int) <= ((2 ^ 20 : Nat) : Int) := by exact_mod_cast h3
      rw [Int.natCast_mul, Yb (by omega)] at this;exact this
    have h8 : (2 ^ 63 - 1 : Int) / n * n <= z.length * n := Int.mul_le_mul_of_nonneg_right (by omega) (by omega);have h9 := Int.emod_add_mul_ediv (2 ^ 63 - 1 : Int) n;have h10 : (2 ^ 63 - 1 : Int) % n < n := ZU _ (by omega);rw [Int.mul_comm] at h8;omega
  . have : z.length * n.toNat <= sizeLine := Zd h3 (by decide)
    show decide (z.length * n.toNat > sizeLine) = false
    exact decide_eq_false (by omega)
  . rw [mul_is]
    exact ⟨.str (xf z n.toNat), H, I.tok _, ⟨_, rfl⟩, q⟩
theorem e_mulS {x y : V} {H : Hp} {Q : VK} : rMulS x y H Q = ∃ z n, x = .str z /\ y = .int n /\ -(2 ^ 62) <= n /\ n < 2 ^ 31 /\ z.length * n.toNat <= 2 ^ 20 /\ Q (.str (xf z n.toNat)) H := rfl
end
theorem hu9 {A : Around} {k : Nat} (hr : Room k A) : A.units + 1 + 8 <= cLine := by have := hr.un; omega
theorem e_ixS {x y : V} {H : Hp} {Q : VK} : rIxS x y H Q = ∃ z i c, x = .str z /\ y = .int i /\ z.length <= sizeLine /\ atI z.cps.toList i = some c /\ Q (.str ⟨#[c]⟩) H := rfl
theorem e_iT {K : Fg} {a : TE} {σ : St} {H : Hp} {R : It -> Hp -> Prop} : iTup K a σ H R = a σ H fun x H1 => ∃ p, x = .ref p /\ (∃ xs, SqT K H1 p xs) /\ R (Itt K p) H1 := rfl
section
variable {X : Cx}
def rJoin (K : Fg) : V -> List V -> Hp -> VK -> Prop := fun x vs H Q => ∃ sep b texts, x = .str sep /\ vs = [.ref b] /\ SqL K H b (texts.map V.str) /\ JoinOk sep texts = true /\ Q (.str (Txt.join sep texts)) H
theorem e_join {K : Fg} {x : V} {vs : List V} {H : Hp} {Q : VK} : rJoin K x vs H Q = ∃ sep b texts, x = .str sep /\ vs = [.ref b] /\ SqL K H b (texts.map V.str) /\ JoinOk sep texts = true /\ Q (.str (Txt.join sep texts)) H := rfl
end
section
variable {σ : St} {k : Nat} {g : TG} {tt : TT} {te : TE} {H1 : Hp} {Fin : List V -> Hp -> Prop}
theorem im {K : Fg} {a : Addr} {xs : List V} (Pv : Nat -> List V -> Hp -> Prop) (h0 : Pv 0 [] H1) (hz : ∀ i ys H, i <= xs.length -> Pv i ys H -> ys.length <= sizeLine /\ SqT K H a xs)
    (hs : ∀ i x ys H, xs[i]? = some x -> Pv i ys H -> g x (List.replicate k none ++ σ) H fun σ2 H2 => σ2.drop k = σ /\ tt σ2 H2 fun b H3 => if b = true then te σ2 H3 fun v H4 => Pv (i + 1) (ys ++ [v]) H4 else Pv (i + 1) ys H3)
    (hd : ∀ ys H, Pv xs.length ys H -> Fin ys H) : rb (Itt K a) σ k g tt te H1 Fin := by
  refine ⟨fun i m ys H => m = xs.length - i /\ i <= xs.length /\ Pv i ys H, ⟨xs.length, by simp, ZE _, h0⟩, ?_⟩
  rintro i m ys H ⟨rfl, hi, p⟩
  have q := (hz i ys H hi p).2;refine ⟨(hz i ys H hi p).1, ?_⟩
  by_cases hlt : i < xs.length
  . refine .inr ⟨⟨xs, xs[i], q, by simp [hlt]⟩, Pv (i + 1), fun ys' H' p' => ⟨xs.length - (i + 1), by omega, rfl, hlt, p'⟩, fun x H' y => ?_⟩
    obtain ⟨e, y⟩ := y;subst e;exact hs i x ys _ (y xs q) p
  . have e : i = xs.length := by omega
    subst e;exact .inl ⟨⟨xs, q, Zm _⟩, hd ys H p⟩
end
theorem z8 {e : Expr} {es : List Expr} {env : Env} (h : ∀ e' p, e ≠ .Starred e' p) : starEach (e :: es) env = (false, eval e env) :: starEach es env := by
  cases e <;> first | rfl | exact absurd rfl (h _ _)
def iSeq (K : Fg) (tl : TE) : TI := fun σ H R => tl σ H fun x H1 => ∃ a, x = .ref a /\ (((∃ xs, SqL K H1 a xs) /\ R (Itl K a) H1) \/ ((∃ xs, SqT K H1 a xs) /\ R (Itt K a) H1))
theorem e_iSeq {K : Fg} {tl : TE} {σ : St} {H : Hp} {R : It -> Hp -> Prop} : iSeq K tl σ H R = tl σ H fun x H1 => ∃ a, x = .ref a /\ (((∃ xs, SqL K H1 a xs) /\ R (Itl K a) H1) \/ ((∃ xs, SqT K H1 a xs) /\ R (Itt K a) H1)) := rfl
section
variable {X : Cx}
def rTupL (K : Fg) : List V -> Hp -> VK -> Prop := fun xs H Q => ∃ p ys, xs = [.ref p] /\ SqL K H p ys /\ ∀ l, H l = none -> Q (.ref l) (upd H l (.tup ys))
theorem r6 : xt X (.type "tuple") (rTupL X.K) := fun pins s σ H xs us Q I r h => by
  obtain ⟨p, ys, e, hq, q⟩ := h;exact ci pins s σ H xs us Q I r ⟨p, ys, e, .inl ⟨hq, q⟩⟩
theorem e_tupL {K : Fg} {xs : List V} {H : Hp} {Q : VK} : rTupL K xs H Q = ∃ p ys, xs = [.ref p] /\ SqL K H p ys /\ ∀ l, H l = none -> Q (.ref l) (upd H l (.tup ys)) := rfl
end
end L2
namespace L2
open PySem PySem.Spec PyProof.Rows
section
variable {X : Cx}
def rMinL (K : Fg) (xs : List V) (H : Hp) (Q : VK) : Prop := ∃ (p : Addr) (ns : List Int), xs = [.ref p] /\ SqL K H p (ns.map V.int) /\ 0 < ns.length /\ ∀ m, m ∈ ns -> (∀ a ∈ ns, m <= a) -> Q (.int m) H
def rMaxL (K : Fg) (xs : List V) (H : Hp) (Q : VK) : Prop := ∃ (p : Addr) (ns : List Int), xs = [.ref p] /\ SqL K H p (ns.map V.int) /\ 0 < ns.length /\ ∀ m, m ∈ ns -> (∀ a ∈ ns, a <= m) -> Q (.int m) H
theorem e_minL {K : Fg} {xs : List V} {H : Hp} {Q : VK} : rMinL K xs H Q = ∃ (p : Addr) (ns : List Int), xs = [.ref p] /\ SqL K H p (ns.map V.int) /\ 0 < ns.length /\ ∀ m, m ∈ ns -> (∀ a ∈ ns, m <= a) -> Q (.int m) H := rfl
theorem e_maxL {K : Fg} {xs : List V} {H : Hp} {Q : VK} : rMaxL K xs H Q = ∃ (p : Addr) (ns : List Int), xs = [.ref p] /\ SqL K H p (ns.map V.int) /\ 0 < ns.length /\ ∀ m, m ∈ ns -> (∀ a ∈ ns, a <= m) -> Q (.int m) H := rfl
theorem ze1 (hc : X.calm = true) : xt X (.builtin "min") (rMinL X.K) := by
  intro pins s σ H xs us Q I r h;obtain ⟨p, ns, rfl, hq, hne, q⟩ := h;obtain ⟨u, rfl, rx⟩ := Vals.one r;cases rx;obtain ⟨its, rv, pl, hz⟩ := I.list hq;have hi : IntsAre its ns := g5 rv;obtain ⟨zs, hx⟩ := hi.allInts.items;have hl' : s.heap.IsList p (intItems zs) := hx ▸ pl.isList
  have hns : ns = zs.toList.map (·.1) := by
    rw [<- nums_intItems, <- hx];exact (show numsOf its.toArray.toList = ns from hi.numsOf).symm
  have hsz : 0 < zs.size := by
    have h3 := hne; rw [hns, Za, ZQ] at h3; exact h3
  refine min_intList (I.ok.hd hc) hl' hsz fun v h' tk hv hk => ?_
  obtain ⟨t, rfl⟩ := intItems_at hv;obtain ⟨h1, h2⟩ := argBest_lt (numAt zs) (zs.size - 1);refine ⟨V.int _, H, I.kept hk, ⟨_, rfl⟩, q _ ?_ fun a ha => ?_⟩
  . rw [hns, numAt_eq]; exact getD_mem (by rw [Za, ZQ]; omega)
  . rw [hns] at ha
    obtain ⟨j, hj, rfl⟩ := mem_getD ha;rw [Za, ZQ] at hj;rw [<- numAt_eq]; exact h2 j (by omega)
theorem zef (hc : X.calm = true) : xt X (.builtin "max") (rMaxL X.K) := by
  intro pins s σ H xs us Q I r h;obtain ⟨p, ns, rfl, hq, hne, q⟩ := h;obtain ⟨u, rfl, rx⟩ := Vals.one r;cases rx;obtain ⟨its, rv, pl, hz⟩ := I.list hq;have hi : IntsAre its ns := g5 rv;obtain ⟨zs, hx⟩ := hi.allInts.items;have hl' : s.heap.IsList p (intItems zs) := hx ▸ pl.isList
  have hns : ns = zs.toList.map (·.1) := by
    rw [<- nums_intItems, <- hx];exact (show numsOf its.toArray.toList = ns from hi.numsOf).symm
  have hsz : 0 < zs.size := by
    have h3 := hne; rw [hns, Za, ZQ] at h3; exact h3
  refine max_intList (I.ok.hd hc) hl' hsz fun v h' tk hv hk => ?_
  obtain ⟨t, rfl⟩ := intItems_at hv;obtain ⟨h1, h2⟩ := argBest_gt (numAt zs) (zs.size - 1);refine ⟨V.int _, H, I.kept hk, ⟨_, rfl⟩, q _ ?_ fun a ha => ?_⟩
  . rw [hns, numAt_eq]; exact getD_mem (by rw [Za, ZQ]; omega)
  . rw [hns] at ha
    obtain ⟨j, hj, rfl⟩ := mem_getD ha;rw [Za, ZQ] at hj;rw [<- numAt_eq]; exact h2 j (by omega)
end
end L2
namespace L2
open PySem PySem.Spec PyProof.Rows
section
variable {prog : Program} {w : World} {A : Around} {E : Value -> Shared -> Prop} {s : Shared}
end
section
variable {X : Cx}
end
end L2
namespace L2
open PySem PySem.Spec PyProof.Rows
def seen (val : Nat -> Str) : Nat -> List Str
  | 0 => []
  | i + 1 => if val i ∈ seen val i then seen val i else seen val i ++ [val i]
theorem af (val : Nat -> Str) : ∀ i, (seen val i).length <= i
  | 0 => Zm _
  | i + 1 => by
    have := af val i;unfold seen
    split
    . omega
    . rw [Zo, Yr]; omega
theorem zgm (val : Nat -> Str) (i : Nat) (k : Str) : (decide (k ∈ seen val i) || decide (k = val i)) = decide (k ∈ seen val (i + 1)) := by
  conv => rhs; unfold seen
  split
  . rename_i h
    by_cases e : k = val i
    . subst e; simp [h]
    . simp [e]
  . simp
theorem zdr (val : Nat -> Str) (i : Nat) : (if decide (val i ∈ seen val i) = true then (seen val i).length else (seen val i).length + 1) = (seen val (i + 1)).length := by
  conv => rhs; unfold seen
  by_cases h : val i ∈ seen val i
  . simp [h]
  . simp [h]
section
variable {prog : Program} {w : World} {A : Around} {R : Result -> Shared -> Prop} {I : Addr} {fp wr : List Addr} {G : Array GenState -> Array GenState -> Prop} {n : Nat} {P : Nat -> Value -> Prop} {St : Nat -> Shared -> Prop}
theorem bp (W : WalksS prog w A.in1 I fp wr G n P St) (T : Addr) (hT : T ∉ fp) (val : Nat -> Str) (hval : ∀ i v, P i v -> ∃ t, v = .str (val i) t) (hb : n + 1 < scanBound) :
    ∀ (k i : Nat) (s : Shared), n - i = k -> i <= n -> St i s -> s.heap.SetOf (PySem.strKind prog w) T (fun k' => decide (k' ∈ seen val i)) (seen val i).length ->
      (∀ s', Moved (T :: wr) G s s' -> s'.heap.SetOf (PySem.strKind prog w) T (fun k' => decide (k' ∈ seen val n)) (seen val n).length -> R (.ok (.ret .none)) s') ->
      codeAny (model prog w) A (.builtin "set.update.loop" ⟨[.ref T, .ref I], []⟩) R s := by
  have hTw : T ∉ wr := fun h => hT (W.sub _ h)
  have sub : ∀ b ∈ wr, b ∈ T :: wr := fun b h => Zv _ h
  intro k
  induction k with
  | zero =>
    intro i s hk hi hst hS hR;obtain rfl : i = n := by omega
    refine codeAny_builtin PyProof.Rows.F.entry_set_update_loop ?_;rw [Around.under_plainId PyProof.Rows.F.plain_set_update_loop _]
    show wpAny _ A.in1 (pyNext (.ref I) >>= _) _ _ s
    refine wpAny_bind (W.done s _ _ hst fun s' hm => ?_);refine wpAny_pure (hR s' (hm.mono sub) ?_);obtain ⟨o, es, ep, t, ho, r⟩ := hS;exact ⟨o, es, ep, t, hm.heap T _ hTw ho, r⟩
  | succ k ih =>
    intro i s hk hi hst hS hR;have hlt : i < n := by omega
    refine codeAny_builtin PyProof.Rows.F.entry_set_update_loop ?_;rw [Around.under_plainId PyProof.Rows.F.plain_set_update_loop _]
    show wpAny _ A.in1 (pyNext (.ref I) >>= _) _ _ s
    refine wpAny_bind (W.item i s _ _ hlt hst fun v s' hP hst' hm => ?_);obtain ⟨t, rfl⟩ := hval i v hP
    have hS' : s'.heap.SetOf (PySem.strKind prog w) T (fun k' => decide (k' ∈ seen val i)) (seen val i).length := by
      obtain ⟨o, es, ep, tb, ho, r⟩ := hS;exact ⟨o, es, ep, tb, hm.heap T _ hTw ho, r⟩
    show wpAny _ A.in1 (holding [Value.str (val i) t] (setAdd T (.str (val i) t)) >>= _) _ _ s'
    refine wpAny_bind (wpAny_holding ?_);unfold setAdd;refine wpAny_holding (wpAny_bind ((PySem.strKind prog w).pyHash (k := val i) (strKind_is _ _ _ _) ?_));have room : (seen val i).length + 1 < scanBound := by have := af val i; omega
    refine wpAny_setAddHashed_of (knd := PySem.strKind prog w) (s := { s' with toks := s'.toks + 1 }) (strKind_is _ _ _ _) rfl hS' room fun h' hsb hS2 => ?_
    have hSi : h'.SetOf (PySem.strKind prog w) T (fun k' => decide (k' ∈ seen val (i + 1))) (seen val (i + 1)).length := by
      have e1 := zdr val i;have e2 : (fun k' => decide (k' ∈ seen val (i + 1))) = fun k' => (decide (k' ∈ seen val i) || decide (k' = val i)) := funext fun k' => (zgm val i k').symm
      rw [<- e1, e2];exact hS2
    refine wpAny_pure ⟨plainId_quiet PyProof.Rows.F.plain_set_update_loop _, ih (i + 1) _ (by omega) hlt (W.frame _ s' _ _ hst' (YE _) fun b hb o e => ?_) hSi fun s2 hm2 hS2' => ?_⟩
    . rw [hsb.2 b (fun z : b = T => hT (z ▸ hb))]; exact e
    . refine hR s2 (Moved.trans W.gtrans ((hm.mono sub).then_heap (YE _) fun b o hb e => ?_) hm2) hS2'
      rw [hsb.2 b (fun z : b = T => hb (z ▸ ZA))]; exact e
end
abbrev setO (led : Bool) : Obj := { cls := .type "set", dict := none, data := .set #[] 0 (.fresh 0 0 led) }
section
variable {prog : Program} {w : World} {A : Around} {E : Value -> Shared -> Prop} {s : Shared}
def zca (prog : Program) (w : World) (s : Shared) (val : Nat -> Str) (n : Nat) (h' : Heap) : Prop :=
  h'.SetOf (PySem.strKind prog w) s.heap.objs.size (fun k' => decide (k' ∈ seen val n)) (seen val n).length /\ ∀ b o, b < s.heap.objs.size -> s.heap.get? b = some o -> h'.get? b = some o
set_option maxHeartbeats 3200000 in
theorem cj {l : Addr} {items : Array Value} {val : Nat -> Str} {Q : Value -> Shared -> Prop} (hh : A.handled = none) (hl : s.heap.IsList l items) (hv : ∀ (i : Nat) v, items[i]? = some v -> ∃ t, v = .str (val i) t) (hb : items.size + 1 < scanBound)
    (h : ∀ (h' : Heap) (tk : Nat), zca prog w s val items.size h' -> Q (.ref s.heap.objs.size) { s with heap := h', toks := tk }) : wpAny (model prog w) A (call (.type "set") [.ref l]) Q E s := by
  obtain ⟨c, tl, hmro⟩ := F.called_set.mro;have hmade := F.called_set.made;have hsub := F.called_set.sub;refine wpAny_call (codeAny_of_tree ?_)
  show wpAny _ _ (callAny (.type "set") _) _ _ _
  refine wpAny_pure ⟨Code.quiet_builtin _ (by decide +kernel), codeAny_builtin F.entry_type_call ?_⟩;rw [Around.under_plain (weight_type_call_type "set" [.ref l] []) rfl];have h1 := F.called_set.notType;have h2 := F.called_set.canCreate;have hct := F.typeCall_set_1 (.ref l)
  repeat (any_goals (first | assumption | wp_step))
  refine codeAny_mono (code_set_new_1 (.ref l) (E := E) (Q₁ := fun obj s₁ => ∃ led : Bool, obj = .ref s.heap.objs.size /\ s₁ = { s with heap := s.heap.push (setO led) }) fun led => ⟨led, rfl, rfl⟩) fun r s₁ hr => ?_
  match r, hr with
  | .error e, hr => exact hr
  | .ok .next, hr => exact hr.elim
  | .ok .brk, hr => exact hr.elim
  | .ok .cont, hr => exact hr.elim
  | .ok (.ret obj), hr =>
    obtain ⟨led, rfl, rfl⟩ := hr;have hS : (s.heap.push (setO led)).get? s.heap.objs.size = some (setO led) := Heap.get?_push_size _ rfl;have hT : Shared.TypeIs { s with heap := s.heap.push (setO led) } (.ref s.heap.objs.size) "set" := ⟨_, hS, rfl⟩;have hli := F.called_set.init.lookup;have hbi := F.called_set.init.bind (.ref s.heap.objs.size)
    repeat (any_goals (first | assumption | wp_step))
    refine codeAny_mono (codeAny_call_builtin (R := wants (fun r s₂ => r = .none /\ ∃ h' tk, s₂ = { s with heap := h', toks := tk } /\ zca prog w s val items.size h') E) F.called_set.init.plain F.entry_set_init (check_set_init_1 hT ?_)) fun r₂ s₂ hr₂ => ?_
    . obtain ⟨ol, hol, hcl, nl, hdl⟩ := id hl
      have hl1 : (s.heap.push (setO led)).IsList l items := hl.push _;obtain ⟨ocls, odict, odata, oslots⟩ := ol;simp only at hcl hdl;subst hcl; subst hdl;have hol' : (s.heap.push (setO led)).get? l = some { cls := .type "list", dict := odict, data := .seq items nl, slots := oslots } := Heap.get?_push_of_some _ hol;have hsls := F.sub_list_set;have hslf := F.sub_list_frozenset;have hne : (Value.type "list" == Value.type "dict") = false := by decide
      unfold Builtin.«set.__init__» noKeywords Builtin.Frozenset.updateFrom;generalize hPI : pyIter = PI
      wp_walk
      subst hPI;refine wpAny_pyIter_list hl1 ?_;refine wpAny_bind (wpAny_runValue ?_);have hlS : l < s.heap.objs.size := Heap.lt_size hol;have hsz : (s.heap.push (setO led)).objs.size = s.heap.objs.size + 1 := size_push' ..;have hneI : l ≠ (s.heap.push (setO led)).objs.size := by rw [hsz]; exact Zs (Yo hlS)
      have hSf : s.heap.objs.size ∉ [(s.heap.push (setO led)).objs.size, l] := by
        rw [hsz];simp only [ZK, Zx, or_false, not_or];exact ⟨Zs (YF _), Yq hlS⟩
      refine bp ((Walks.list (by simp [hh]) _ l hneI items).toS) s.heap.objs.size hSf val hv hb (items.size - 0) 0 _ (by omega) (ZE _) ⟨⟨_, Heap.get?_push_size _ rfl, rfl, rfl⟩, hl1.push _⟩ ?_ ?_
      . have hget : ((s.heap.push (setO led)).push { cls := .type "list_iterator", data := .fields #[.ref l, .int 0 0] }).get? s.heap.objs.size = some (setO led) := Heap.get?_push_of_some _ hS
        exact (PyProof.Rows.setObjOf_fresh (knd := PySem.strKind prog w) led).setOf hget (by unfold scanBound; omega)
      . intro s' hm hS'
        rw [Moved.eq_with hm];refine wpAny_pure ?_;refine wpAny_pure ⟨rfl, s'.heap, s'.toks, rfl, hS', fun b o hb e => hm.heap b o ?_ (Heap.get?_push_of_some _ (Heap.get?_push_of_some _ e))⟩;rw [hsz];simp only [ZK, Zx, or_false, not_or];exact ⟨Zs hb, Zs (Yo hb)⟩
    . match r₂, hr₂ with
      | .error e, hr₂ => exact hr₂
      | .ok .next, hr₂ => exact hr₂.elim
      | .ok .brk, hr₂ => exact hr₂.elim
      | .ok .cont, hr₂ => exact hr₂.elim
      | .ok (.ret r), hr₂ =>
        obtain ⟨rfl, h', tk, rfl, hd⟩ := hr₂
        repeat (any_goals (first | assumption | wp_step))
        exact h _ _ hd
end
end L2
namespace L2
open PySem PySem.Spec PyProof.Rows
theorem zf9 {zs : List Str} {us : List Value} (r : Vals (zs.map V.str) us) (i : Nat) (v : Value) (h : us[i]? = some v) : ∃ t, v = .str (zs.getD i ⟨#[]⟩) t := by
  have hl := r.length;rw [Za] at hl;have hi : i < zs.length := by rw [hl]; exact (Zc.mp h).1
  obtain ⟨u, hu, ru⟩ := r.get (i := i) (x := V.str zs[i]) (by simp [hi]);rw [h] at hu;cases hu;obtain ⟨t, rfl⟩ := ru;exact ⟨t, by simp [Zk, hi]⟩
section
variable {X : Cx}
def zb7 (K : Fg) (t : TA) : TE := fun σ H Q => t σ H fun vs H1 => ∃ (p : Addr) (zs : List Str), vs = [.ref p] /\ SqL K H1 p (zs.map V.str) /\ zs.length <= 1000 /\ Q (.int (seen (fun i => zs.getD i ⟨#[]⟩) zs.length).length) H1
theorem zf8 {K : Fg} {t : TA} {σ : St} {H : Hp} {Q : VK} : zb7 K t σ H Q = t σ H fun vs H1 => ∃ (p : Addr) (zs : List Str), vs = [.ref p] /\ SqL K H1 p (zs.map V.str) /\ zs.length <= 1000 /\ Q (.int (seen (fun i => zs.getD i ⟨#[]⟩) zs.length).length) H1 := rfl
theorem zei {e : Expr} {t : TA} {p1 p2 q1 q2 : Pos} (hc : X.calm = true) (hgL : Gl X "len") (hmL : X.mg "len" = none) (hgR : Gl X "set") (hmR : X.mg "set" = none) (ha : PA X [e] t)
    (he : starEach [e] X.env = (false, eval e X.env) :: starEach [] X.env := by rfl) (he2 : starEach [.Call (.Name "set" p2) [e] [] q2] X.env = (false, eval (.Call (.Name "set" p2) [e] [] q2) X.env) :: starEach [] X.env := by rfl) :
    PE X (.Call (.Name "len" p1) [.Call (.Name "set" p2) [e] [] q2] [] q1) (zb7 X.K t) := by
  intro pins s σ H Q I h;refine wpAny_Call_Name_kw (v5 I hgL hmL ye ?_);refine PyProof.Rows.callWith_builtin1 ?_ he2 rfl;rw [he2]
  show wpAny _ _ (spliced ((false, eval (.Call (.Name "set" p2) [e] [] q2) X.env) :: backTo q1 (starEach [] X.env))) _ _ s
  refine Calls.spliced_cons ?_;refine wpAny_Call_Name_kw (v5 I hgR hmR bt_set ?_);refine PyProof.Rows.callWith_type1 (thn (ha q2 pins s σ H _ I h) fun us s1 ⟨vs, H1, I1, r1, q⟩ => ?_) he rfl;obtain ⟨p, zs, rfl, hq, hz, q⟩ := q;obtain ⟨u, rfl, rx⟩ := Vals.one r1;cases rx;obtain ⟨its, rv, pl, _⟩ := I1.list hq;have hlen : its.length = zs.length := by have := rv.length; rw [Za] at this; exact this.symm
  refine cj (val := fun i => zs.getD i ⟨#[]⟩) (I1.ok.hd hc) pl.isList (fun i v hv => zf9 rv i v (by simpa using hv)) (by rw [Zr, hlen]; exact ZT (YT hz) (by decide)) fun h' tk hd => ?_
  refine Calls.spliced_nil ?_;obtain ⟨hS, kp⟩ := hd;rw [show its.toArray.size = zs.length by rw [Zr, hlen]] at hS;have I2 : Inv X pins σ H1 { s1 with heap := h', toks := tk } := I1.kept fun b o e => kp b o (Heap.lt_size e) e
  obtain ⟨o, es, ep, t, ho, ex, hd, _, _, hz2, hf, hn⟩ := hS;have h3 : ((es.size : Nat) : Int) < 2 ^ 63 := by unfold scanBound at hz2; omega
  refine call_len_set ho ex hd hf h3 ⟨.int es.size, H1, I2.tok _, ⟨_, rfl⟩, ?_⟩;rw [hn];exact q
def rLeS (x y : V) (H : Hp) (Q : VK) : Prop := ∃ i j, x = .str i /\ y = .str j /\ Q (.bl (!decide (j.cps.toList < i.cps.toList))) H
theorem e_leS {x y : V} {H : Hp} {Q : VK} : rLeS x y H Q = ∃ i j, x = .str i /\ y = .str j /\ Q (.bl (!decide (j.cps.toList < i.cps.toList))) H := rfl
theorem zet : OpR X (compareOp .LtE) rLeS := by
  intro pins s σ H x y v u Q I rx ry h;obtain ⟨i, j, rfl, rfl, q⟩ := h;obtain ⟨t, rfl⟩ := rx;obtain ⟨t', rfl⟩ := ry;exact PySem.P.le_str (yj I q rfl)
end
section
variable {σ : St} {k : Nat} {g : TG} {tt : TT} {te : TE} {H1 : Hp} {Fin : List V -> Hp -> Prop}
theorem zgg {z : Str} (Pv : Nat -> List V -> Hp -> Prop) (h0 : Pv 0 [] H1) (hz : ∀ i ys H, i <= z.cps.size -> Pv i ys H -> ys.length <= sizeLine)
    (hs : ∀ i c ys H, z.cps[i]? = some c -> Pv i ys H -> g (.str (chr1 c)) (List.replicate k none ++ σ) H fun σ2 H2 => σ2.drop k = σ /\ tt σ2 H2 fun b H3 => if b = true then te σ2 H3 fun v H4 => Pv (i + 1) (ys ++ [v]) H4 else Pv (i + 1) ys H3)
    (hd : ∀ ys H, Pv z.cps.size ys H -> Fin ys H) : rb (Itw z) σ k g tt te H1 Fin := by
  refine ⟨fun i m ys H => m = z.cps.size - i /\ i <= z.cps.size /\ Pv i ys H, ⟨z.cps.size, by simp, ZE _, h0⟩, ?_⟩
  rintro i m ys H ⟨rfl, hi, p⟩
  refine ⟨hz i ys H hi p, ?_⟩
  by_cases hlt : i < z.cps.size
  . refine .inr ⟨hlt, Pv (i + 1), fun ys' H' p' => ⟨z.cps.size - (i + 1), by omega, rfl, hlt, p'⟩, fun x H' y => ?_⟩
    obtain ⟨e, c, e2, y⟩ := y;subst e y;exact hs i c ys _ e2 p
  . have e : i = z.cps.size := by omega
    subst e;exact .inl ⟨Zm _, hd ys H p⟩
end
def intE : Expr -> Option Int
  | .Constant (.int i) _ _ => some i
  | _ => none
def cu : List Expr -> Option (List Int)
  | [] => some []
  | e :: es => (intE e).bind fun i => (cu es).map fun is => i :: is
def ju : List Int -> List V
  | [] => []
  | i :: is => .int i :: ju is
theorem e_vI0 : ju [] = [] := rfl
theorem e_vI {i : Int} {is : List Int} : ju (i :: is) = .int i :: ju is := rfl
def tInts (ns : List Int) : TA := fun _ H Q => Q (ju ns) H
theorem e_ints {ns : List Int} {σ : St} {H : Hp} {Q : List V -> Hp -> Prop} : tInts ns σ H Q = Q (ju ns) H := rfl
theorem zbx {X : Cx} : ∀ {es : List Expr} {ns : List Int}, cu es = some ns -> PA X es (tInts ns)
  | [], ns, h => by
    cases h;exact zb
  | e :: es, ns, h => by
    unfold cu at h
    cases e with
    | Constant c j p =>
      cases c with
      | int i =>
        cases e2 : cu es with
        | none => rw [e2] at h; cases h
        | some is =>
          rw [e2] at h;cases h;exact za zg (zbx e2)
      | _ => cases h
    | _ => cases h
end L2
namespace L2
open PySem PySem.Spec PyProof.Rows
section
variable {X : Cx}
def rIsB (x y : V) (H : Hp) (Q : VK) : Prop := ∃ b c, x = .bl b /\ y = .bl c /\ Q (.bl (b == c)) H
theorem e_isB {x y : V} {H : Hp} {Q : VK} : rIsB x y H Q = ∃ b c, x = .bl b /\ y = .bl c /\ Q (.bl (b == c)) H := rfl
end
end L2
namespace L2
open PySem PySem.Spec PyProof.Rows
theorem zch {α : Type} {l : List α} {k : Nat} {x : α} (h : l[k]? = some x) : l.drop k = x :: l.drop (k + 1) := by
  obtain ⟨hk, e⟩ := Zc.mp h;rw [List.drop_eq_getElem_cons hk, e]
theorem ua {X : Cx} {body : List Stmt} {k : Nat} {st : Stmt} {t ts : TS} (hs : PS X st t) (h : body[k]? = some st) (hr : PSs X (body.drop (k + 1)) ts) : PSs X (body.drop k) (tSeq t ts) := by
  rw [zch h];exact zi hs hr
theorem zho {X : Cx} {body : List Stmt} {k : Nat} {st : Stmt} {t : TS} (hs : PS X st t) (h : body[k]? = some st) (hl : body[k + 1]? = none) : PSs X (body.drop k) t := by
  rw [zch h, List.drop_eq_nil_of_le (List.getElem?_eq_none_iff.mp hl)];exact zh hs
theorem zg4 {X : Cx} {body : List Stmt} {t : TS} (h : PSs X (body.drop 0) t) : PSs X body t := h
end L2
namespace L2
open PySem PySem.Spec PyProof.Rows
section
variable {prog : Program} {w : World} {A : Around} {E : Value -> Shared -> Prop} {s : Shared}
theorem zgh {t b : Addr} {vs ws : List Value} {Q : Value -> Shared -> Prop} (ht : IsTup s.heap t vs.toArray) (hb : IsTup s.heap b ws.toArray) (hv : vs = []) (h0 : Q (.ref b) s) :
    wpAny (model prog w) A (binaryOp .Add (.ref t) (.ref b)) Q E s := by
  obtain ⟨⟨cls, dd, data, sl⟩, ho, hc, n, hd⟩ := id ht;obtain ⟨⟨cls2, dd2, data2, sl2⟩, ho2, hc2, n2, hd2⟩ := id hb;simp only at hc hd hc2 hd2;subst hc hd hc2 hd2
  exact concat_meets ⟨_, ho, rfl⟩ ⟨_, ho2, rfl⟩ noFill_tuple_add seq_tuple_add PySem.F.slot_tuple_add PySem.F.entry_tuple_add (PySem.F.args_tuple_add_2 _ _)
    (tuple_addW0 t b vs.toArray ws.toArray n n2 dd dd2 sl sl2 (by simp [hv])) ⟨ho, ho2, h0⟩
end
theorem aj {H : Hp} {a : Addr} {o : HO} (n : H a = none) : Same H (upd H a o) := fun b u e => by
  rw [zr (fun z => by rw [z, n] at e; cases e)]; exact e
section
variable {X : Cx}
def rCatH : R2 := fun x y H Q => ∃ a b xs ys, x = .ref a /\ y = .ref b /\ H a = some (.tup xs) /\ H b = some (.tup ys) /\ xs.length + ys.length <= sizeLine /\ ∀ H' p, Same H H' -> H' p = some (.tup (xs ++ ys)) -> Q (.ref p) H'
theorem e_catH {x y : V} {H : Hp} {Q : VK} : rCatH x y H Q = ∃ a b xs ys, x = .ref a /\ y = .ref b /\ H a = some (.tup xs) /\ H b = some (.tup ys) /\ xs.length + ys.length <= sizeLine /\ ∀ H' p, Same H H' -> H' p = some (.tup (xs ++ ys)) -> Q (.ref p) H' := rfl
theorem uq : OpR X (binaryOp .Add) rCatH := by
  intro pins s σ H x y v u Q I rx ry h;obtain ⟨a, b, xs, ys, rfl, rfl, ha, hb, hz, q⟩ := h
  by_cases e1 : xs = []
  . subst e1
    cases rx;cases ry;obtain ⟨its, r1, p1, _⟩ := I.tuple (SqT.of ha);obtain ⟨its2, r2, p2, _⟩ := I.tuple (SqT.of hb);exact zgh p1 p2 (r1.nil_iff.mpr rfl) ⟨.ref b, H, I, rfl, q H b (Same.refl _) hb⟩
  . refine zhq pins s σ H (.ref a) (.ref b) v u Q I rx ry ⟨a, b, xs, ys, rfl, rfl, .of ha, .of hb, e1, hz, fun e2 => ?_, fun e2 p hp => ?_⟩
    . subst e2
      exact q H a (Same.refl _) (by rw [ha, Yw])
    . exact q _ p (aj hp) ze
theorem zge {x : V} {vs : List V} {H : Hp} {Q : VK} : zck x vs H Q = ∃ l b xs zs, x = .ref l /\ vs = [.ref b] /\ H l = some (.lst xs) /\ H b = some (.lst zs) /\ xs.length + zs.length <= sizeLine /\ Q .non (upd H l (.lst (xs ++ zs))) := rfl
end
section
open HT
variable {prog : Program} {w : World} {A : Around} {E : Value -> Shared -> Prop} {s : Shared}
theorem j1 {t sl : Addr} {items : Array Value} {vl vu : Value} {lo hi : Option Int} {Q : Value -> Shared -> Prop} (ht : IsTup s.heap t items) (hs : s.heap.IsSliceOf sl vl vu .none) (pl : IsPart vl lo) (pu : IsPart vu hi)
    (hw : sIx items.size 0 lo = 0 /\ sIx items.size items.size hi = items.size) (h : Q (.ref t) s) : wpAny (model prog w) A (getItem (.ref t) (.ref sl)) Q E s := by
  obtain ⟨os, hos, hcs, hds⟩ := id hs;have hTs : s.TypeIs (.ref sl) "slice" := ⟨os, hos, hcs⟩;unfold getItem
  try with_reducible refine wpAny_holding ?_
  first | refine wpAny_bind (wpAny_pure ?_) | skip
  refine wpAny_bind (wpAny_sequenceKey ht.typeIs (by decide) ?_)
  refine wpAny_bind (wpAny_callSpecial?_slot (name := Str.ofString "__getitem__") ht.typeIs PyProof.Rows.slot_tuple_getitem
    (wpAny_call_entry PyProof.Rows.slot_tuple_getitem ht.typeIs entry_tuple_getitem ?_ (args_tuple_getitem _ _)))
  show wpAny _ _ (Builtin.Tuple.tupleItemsOf (.ref t) >>= _) _ _ s
  refine wpAny_bind (tupleItemsOf_ ht ?_);refine wpAny_bind (wpAny_typeOf hTs ?_);rw [if_pos (by decide)];refine wpAny_bind (oi hs pl pu ?_)
  have hyes : (((sIx items.size 0 lo : Nat) : Int) == 0 && (1 : Int) == 1 && (sIx items.size items.size hi - sIx items.size 0 lo) == items.size) = true := by
    rw [hw.1, hw.2];simp
  show wpAny _ _ (if (((sIx items.size 0 lo : Nat) : Int) == 0 && (1 : Int) == 1 && (sIx items.size items.size hi - sIx items.size 0 lo) == items.size) = true then _ else _) _ _ s
  rw [if_pos hyes];unfold Builtin.Tuple.tupleIsExact;refine wpAny_bind (wpAny_bind (wpAny_typeOf ht.typeIs (wpAny_pure ?_)));rw [if_pos (by decide)];exact wpAny_bind (wpAny_rule (wpAny_pure ⟨_, rfl, wpAny_pure h⟩))
end
section
variable {X : Cx}
def rSlH : V -> Option Int -> Option Int -> Hp -> VK -> Prop := fun x lo hi H Q => ∃ a xs, x = .ref a /\ H a = some (.tup xs) /\ ∀ H' p, Same H H' -> H' p = some (.tup (cutV xs lo hi)) -> Q (.ref p) H'
theorem e_slH {x : V} {lo hi : Option Int} {H : Hp} {Q : VK} : rSlH x lo hi H Q = ∃ a xs, x = .ref a /\ H a = some (.tup xs) /\ ∀ H' p, Same H H' -> H' p = some (.tup (cutV xs lo hi)) -> Q (.ref p) H' := rfl
theorem p9 : SlR X rSlH := by
  intro pins s σ H x v vl vu lo hi sl Q I rx hs pl pu h;obtain ⟨a, xs, rfl, hx, q⟩ := h
  by_cases hw : HT.sIx xs.length 0 lo = 0 /\ HT.sIx xs.length xs.length hi = xs.length
  . cases rx
    obtain ⟨its, r, ht, hz⟩ := I.tuple (SqT.of hx);have hlen : its.toArray.size = xs.length := by rw [Zr]; exact r.length.symm
    refine ⟨"tuple", _, PyProof.Rows.slot_tuple_getitem.lookup, ht.typeIs, ?_⟩;refine j1 ht hs pl pu (by rw [hlen]; exact hw) ⟨.ref a, H, I, rfl, q H a (Same.refl _) ?_⟩;rw [hx];unfold cutV;rw [hw.1, hw.2];simp
  . exact ad pins s σ H _ v vl vu lo hi sl Q I rx hs pl pu ⟨a, xs, rfl, .of hx, hw, fun p hp => q _ p (aj hp) ze⟩
theorem e_slT {K : Fg} {x : V} {lo hi : Option Int} {H : Hp} {Q : VK} : rSlT K x lo hi H Q = ∃ a xs, x = .ref a /\ SqT K H a xs /\ ¬ (HT.sIx xs.length 0 lo = 0 /\ HT.sIx xs.length xs.length hi = xs.length) /\ ∀ p, H p = none -> Q (.ref p) (upd H p (.tup (cutV xs lo hi))) := rfl
theorem j0 {xs : List V} {k : Nat} (h : k <= xs.length) : cutV xs none (some (k : Int)) = xs.take k := by
  unfold cutV;rw [HT.sIx_none, HT.sIx_nat];simp [YV h]
theorem ma {xs : List V} {k : Nat} (h : k <= xs.length) : cutV xs (some (k : Int)) none = xs.drop k := by
  unfold cutV;rw [HT.sIx_none, HT.sIx_nat, YV h];exact ZG (by rw [Ye]; omega)
end
end L2
namespace L2
open PySem PySem.Spec PyProof.Rows
section
variable {σ : St} {k : Nat} {g : TG} {tt : TT} {te : TE} {H1 : Hp} {Fin : List V -> Hp -> Prop}
theorem ze9 {K : Fg} {a : Addr} {xs : List V} (Pv : Nat -> List V -> Hp -> Prop) (h0 : Pv 0 [] H1) (hz : ∀ i ys H, i <= xs.length -> Pv i ys H -> ys.length <= sizeLine /\ SqL K H a xs)
    (hs : ∀ i x ys H T, xs[i]? = some x -> H T = none -> Pv i ys H -> g (.ref T) (List.replicate k none ++ σ) (upd H T (.tup [.int i, x])) fun σ2 H2 => σ2.drop k = σ /\ tt σ2 H2 fun b H3 => if b = true then te σ2 H3 fun v H4 => Pv (i + 1) (ys ++ [v]) H4 else Pv (i + 1) ys H3)
    (hd : ∀ ys H, Pv xs.length ys H -> Fin ys H) : rb (Ite K a) σ k g tt te H1 Fin := by
  refine ⟨fun i m ys H => m = xs.length - i /\ i <= xs.length /\ Pv i ys H, ⟨xs.length, by simp, ZE _, h0⟩, ?_⟩
  rintro i m ys H ⟨rfl, hi, p⟩
  obtain ⟨q0, qa⟩ := hz i ys H hi p;refine ⟨q0, ?_⟩
  by_cases hlt : i < xs.length
  . refine .inr ⟨⟨xs, xs[i], qa, by simp [hlt]⟩, Pv (i + 1), fun ys' H' p' => ⟨xs.length - (i + 1), by omega, rfl, hlt, p'⟩, fun x H' y => ?_⟩
    obtain ⟨T, x', rfl, hT, rfl, hy⟩ := y;exact hs i x' ys _ T (hy xs qa) hT p
  . have e : i = xs.length := by omega
    subst e;exact .inl ⟨⟨xs, qa, Zm _⟩, hd ys H p⟩
end
end L2
namespace L2
open PySem PySem.Spec PyProof.Rows
theorem ce (l : Addr) (items : Array Value) (n : Nat) (dd : Option Addr) (sl : Array (Option Value)) (x : Value) (e : Value -> Bool) (j : Nat) (hj : j < items.size)
    (hit : e items[j] = true) (hno : ∀ m (hm : m < items.size), m < j -> e items[m] = false) :
    Meets (Builtin.«tuple.index» ⟨[.ref l, x], []⟩)
      (fun A R s => s.heap.get? l = some { cls := .type "tuple", dict := dd, data := .seq items n, slots := sl } /\ (∀ y, y ∈ items -> SeqAt.EqAt A.in1 s y x (e y)) /\ R (.ok (.ret (.int j s.toks))) { s with toks := s.toks + 1 }) :=
  .of_wp fun prog w A R s h => by
    obtain ⟨hp, g, d, tk, os⟩ := s; obtain ⟨hl, he, h⟩ := h
    wp_walk using AutoSeq1.wpAny_loadPart' hl
    show wpAny (model prog w) A.in1 (forIn [:min items.size items.size] ((none, ()) : Option PySem.Fin × Unit) fun (i : Nat) _ => (match items[i]? with
      | some y => do
        let __do_lift <- eqBool y x
        if __do_lift = true then do
            let __do_lift <- retInt (i : Int)
            pure (ForInStep.done (some __do_lift, ()))
          else pure (ForInStep.yield (none, ()))
      | _ => pure (ForInStep.yield (none, ())) : Sem (ForInStep (Option PySem.Fin × Unit)))) _ _ _
    rw [Std.Legacy.Range.forIn_eq_forIn_range'];refine wpAny_forIn_list _ (fun rest b s' => b = (none, ()) /\ s' = (⟨hp, g, d, tk, os⟩ : Shared) /\ ∃ i, i <= j /\ rest = List.range' i (items.size - i)) _ ?turn ?fin _ _ ⟨rfl, rfl, 0, ZE _, by simp [Std.Legacy.Range.size]⟩
    case turn =>
      rintro k rest b s' ⟨rfl, rfl, i, hi, er⟩
      have hlt : i < items.size := by omega
      rw [show items.size - i = (items.size - (i + 1)) + 1 by omega, List.range'_succ] at er
      injection er with e1 e2
      subst e1;have ei : items[k]? = some items[k] := by simp [hlt]
      rw [ei];refine wpAny_bind (he _ (Array.getElem_mem hlt) prog w _ _ ?_)
      by_cases hk : k = j
      . subst hk
        rw [hit, if_pos rfl];refine wpAny_bind ?_;unfold retInt
        wp_walk
        exact ⟨_, rfl, h⟩
      . rw [hno k hlt (by omega)]
        wp_walk
        exact ⟨rfl, rfl, k + 1, by omega, e2⟩
    case fin =>
      rintro b s' ⟨rfl, rfl, i, hi, er⟩
      have : (List.range' i (items.size - i)).length = 0 := by rw [<- er]; rfl
      rw [List.length_range'] at this;omega
section
variable {X : Cx}
structure FirstAt (xs : List V) (y : V) (j : Nat) : Prop where
  flat : xr y = true
  flats : xs.all xr = true
  hit : ∃ z, xs[j]? = some z /\ eqV z y = true
  no : ∀ (m : Nat) (z : V), m < j -> xs[m]? = some z -> eqV z y = false
theorem FirstAt.lt {xs : List V} {y : V} {j : Nat} (h : FirstAt xs y j) : j < xs.length := by
  obtain ⟨z, e, _⟩ := h.hit;exact (Zc.mp e).1
theorem fc {xs : List V} {us : List Value} {y z : V} {m : Nat} (r : Vals xs us) (fs : xs.all xr = true) (e : xs[m]? = some z) (hm : m < us.toArray.size) : eqU y us.toArray[m] = eqV z y := by
  obtain ⟨w, hw, rw'⟩ := r.get e
  have : us.toArray[m] = w := by
    have h2 := (Zc.mp hw).2
    simpa using h2
  rw [this];exact zek rw' (ZP.mp fs _ (Zi e))
def zb5 (K : Fg) : V -> List V -> Hp -> VK -> Prop := fun x vs H Q => ∃ p xs y j, x = .ref p /\ vs = [y] /\ SqT K H p xs /\ FirstAt xs y j /\ Q (.int (j : Nat)) H
def zco (K : Fg) : V -> List V -> Hp -> VK -> Prop := fun x vs H Q => ∃ p xs y j, x = .ref p /\ vs = [y] /\ SqL K H p xs /\ FirstAt xs y j /\ Q (.int (j : Nat)) H
theorem zfx {K : Fg} {x : V} {vs : List V} {H : Hp} {Q : VK} : zb5 K x vs H Q = ∃ p xs y j, x = .ref p /\ vs = [y] /\ SqT K H p xs /\ FirstAt xs y j /\ Q (.int (j : Nat)) H := rfl
theorem zfw {K : Fg} {x : V} {vs : List V} {H : Hp} {Q : VK} : zco K x vs H Q = ∃ p xs y j, x = .ref p /\ vs = [y] /\ SqL K H p xs /\ FirstAt xs y j /\ Q (.int (j : Nat)) H := rfl
theorem dg : MtR X "tuple.index" (zb5 X.K) := by
  intro pins s σ H x vs v us Q I rx rvs h;obtain ⟨p, xs, y, j, rfl, rfl, hq, hF, q⟩ := h;cases rx;obtain ⟨u, rfl, ru⟩ := rc rvs;obtain ⟨its, r, pl, hz⟩ := I.tuple hq;obtain ⟨⟨cls, dd, data, sl⟩, ho, hc, n, hd⟩ := id pl;simp only at hc hd;subst hc hd;have hl := r.length;have hjl : j < its.toArray.size := by rw [Zr, <- hl]; exact hF.lt
  obtain ⟨z, e, hit⟩ := hF.hit;refine call_meets PySem.F.slot_tuple_index ⟨_, ho, rfl⟩ PySem.F.entry_tuple_index (PySem.F.args_tuple_index_2 _ _) (ce p its.toArray n dd sl u (eqU y) j hjl ?_ ?_) ⟨ho, fun w hw => io ru hF.flat r hF.flats w (by simpa using hw), ⟨.int j, H, I.tok _, ⟨_, rfl⟩, q⟩⟩
  . rw [fc r hF.flats e]; exact hit
  . intro m hm hmj
    have hml : m < xs.length := by rw [hl]; simpa using hm
    rw [fc r hF.flats (Zb hml)];exact hF.no m _ hmj (Zb hml)
theorem jd : MtR X "list.index" (zco X.K) := by
  intro pins s σ H x vs v us Q I rx rvs h;obtain ⟨p, xs, y, j, rfl, rfl, hq, hF, q⟩ := h;cases rx;obtain ⟨u, rfl, ru⟩ := rc rvs;obtain ⟨its, r, pl, hz⟩ := I.list hq;obtain ⟨⟨cls, dd, data, sl⟩, ho, hc, n, hd⟩ := id pl.isList;simp only at hc hd;subst hc hd;have hl := r.length;have hjl : j < its.toArray.size := by rw [Zr, <- hl]; exact hF.lt
  have hn := nh;obtain ⟨z, e, hit⟩ := hF.hit;refine call_meets PySem.F.slot_list_index ⟨_, ho, rfl⟩ PySem.F.entry_list_index (PySem.F.args_list_index_2 _ _) (SeqAt.list_indexAt p its.toArray n dd sl u (eqU y) j hjl (by have := hF.lt; omega) ?_ ?_) ⟨ho, fun w hw => io ru hF.flat r hF.flats w (by simpa using hw), ⟨.int j, H, I.tok _, ⟨_, rfl⟩, q⟩⟩
  . rw [fc r hF.flats e]; exact hit
  . intro m hm hmj
    have hml : m < xs.length := by rw [hl]; simpa using hm
    rw [fc r hF.flats (Zb hml)];exact hF.no m _ hmj (Zb hml)
end
section
variable {X : Cx}
theorem hu10 {A : Around} {k : Nat} (hr : Room k A) : A.units + 1 < cLine := by have := hu9 hr; omega
def rInK (neg : Bool) : R2 := fun y x H Q => ∃ a o, x = .ref a /\ DGet H a y o /\ Q (.bl (neg ^^ o.isSome)) H
theorem e_inK {neg : Bool} {y x : V} {H : Hp} {Q : VK} : rInK neg y x H Q = ∃ a o, x = .ref a /\ DGet H a y o /\ Q (.bl (neg ^^ o.isSome)) H := rfl
def rSetD : TSet := fun o i v H Q => ∃ a H', o = .ref a /\ DPut H a i v H' /\ Q H'
theorem e_setD {o i v : V} {H : Hp} {Q : Hp -> Prop} : rSetD o i v H Q = ∃ a H', o = .ref a /\ DPut H a i v H' /\ Q H' := rfl
theorem iu (hu : X.A.units + 1 < cLine) : PSet X rSetD := by
  intro pins s σ H o i v ov iv u Q I ro ri rv h;obtain ⟨a, H', rfl, g, q⟩ := h;cases ro;exact zfs hu I g ri rv fun s4 I4 => ⟨H', I4, q⟩
theorem zgq {σ : St} {H : Hp} {Q : VK} : zfa σ H Q = ∀ p, H p = none -> Q (.ref p) (upd H p (.dT [])) := rfl
theorem e_dget {td ty : TE} {σ : St} {H : Hp} {Q : VK} : tDGet td ty σ H Q = td σ H fun x H1 => ty σ H1 fun y H2 => ∃ a v, x = .ref a /\ DGet H2 a y (some v) /\ Q v H2 := rfl
theorem cf {prog : Program} {w : World} (d : Addr) (hd : (d == sysModules) = false) :
    MeetsIn prog w (Builtin.«dict.__len__» ⟨[.ref d], []⟩) (fun _ R s => ∃ o es ep, s.heap.get? d = some o /\ o.data = .dict es ep /\ R (.ok (.ret (.int es.size s.toks))) { s with toks := s.toks + 1 }) :=
  .of_wp fun A R s ⟨o, es, ep, ho, hdat, h⟩ => by
    show wpAny _ _ (dictSize d >>= _) _ _ s
    unfold dictSize;refine wpAny_bind (wpAny_bind (wpAny_dictEntries ho hdat (wpAny_pure ?_)))
    show wpAny _ _ (Builtin.Dict.pendingCount d >>= _) _ _ s
    refine wpAny_bind (wpAny_pendingCount_other hd ?_);refine wpAny_ret_mkInt ?_;rw [Nat.add_zero]; exact h
theorem zgz {prog : Program} {w : World} {A : Around} {E : Value -> Shared -> Prop} {s : Shared} {d : Addr} {o : Obj} {es : Array DictEntry} {ep : Nat} {Q : Value -> Shared -> Prop} (hd : (d == sysModules) = false) (ht : s.TypeIs (.ref d) "dict") (ho : s.heap.get? d = some o) (hdat : o.data = .dict es ep) (hfit : (es.size : Int) < 2 ^ 63)
    (h : Q (.int es.size (s.toks + 1)) { s with toks := s.toks + 1 + 1 }) : wpAny (model prog w) A (call (.builtin "len") [.ref d]) Q E s := by
  refine Calls.call_function_entry kind_len plain_len entry_len (args_len1 _) ?_;unfold Builtin.«len»;refine wpAny_bind (m := oneArg "len" _) (wpAny_pure ?_)
  refine wpAny_bind (m := callSpecial? (.ref d) (Str.ofString "__len__")) (wpAny_callSpecial?_slot (name := Str.ofString "__len__") ht PySem.F.slot_dict_len
    (call_meetsIn PySem.F.slot_dict_len ht PySem.F.entry_dict_len (PySem.F.args_dict_len_1 _) (cf d hd) ⟨o, es, ep, ho, hdat, ?_⟩))
  show wpAny _ _ _ _ _ { s with toks := s.toks + 1 }
  refine wpAny_bind (wpAny_holding (wpAny_pure ?_));refine wpAny_bind (wpAny_letGo ?_)
  show wpAny _ _ (if ((es.size : Nat) : Int) < 0 then _ else _) _ _ _
  rw [if_neg (by omega)]
  show wpAny _ _ (if ((es.size : Nat) : Int) ≥ 2 ^ 63 then _ else _) _ _ _
  rw [if_neg (by omega)];exact wpAny_bind (wpAny_mkInt (wpAny_pure ⟨_, rfl, h⟩))
theorem dh : xt X (.builtin "len") (fun xs H Q => ∃ a kvs, xs = [V.ref a] /\ H a = some (.dT kvs) /\ Q (.int kvs.length) H) := by
  intro pins s σ H xs us Q I r h;obtain ⟨a, kvs, rfl, ha, q⟩ := h;obtain ⟨u, rfl, ru⟩ := rc r;cases ru;obtain ⟨z, hd, ys, rel, dd⟩ := zdq I.hok ha;have ht := dd.typeIs (s := s);obtain ⟨o, es, ep, ho, hc, hdat, he, _⟩ := id dd
  have hl : es.size = kvs.length := by
    rw [size_of_entries he];exact (Paired.length rel).symm
  have hn := nh;refine zgz hd ht ho hdat (by omega) ?_;rw [hl];exact ⟨.int kvs.length, H, I.tok _, ⟨_, rfl⟩, q⟩
end
end L2
namespace L2
open PySem PySem.Spec PyProof.Rows
section
variable {X : Cx}
def tBMT (r : V -> List V -> Hp -> VK -> Prop) (to : TE) (t : TA) : TE := fun σ H Q => to σ H fun x H1 => (∃ p xs, x = .ref p /\ Rd H1 p (.tup xs)) /\ t σ H1 fun xs H2 => r x xs H2 Q
theorem e_BMT {r : V -> List V -> Hp -> VK -> Prop} {to : TE} {t : TA} {σ : St} {H : Hp} {Q : VK} : tBMT r to t σ H Q = to σ H fun x H1 => (∃ p xs, x = .ref p /\ Rd H1 p (.tup xs)) /\ t σ H1 fun xs H2 => r x xs H2 Q := rfl
theorem zfg {o e : Expr} {es : List Expr} {to : TE} {t : TA} {name : Str} {apos cpos : Pos} {id : String} {r : V -> List V -> Hp -> VK -> Prop} (pa : PlainAttrs "tuple") (slot : Slot "tuple" name id) (hty : typeOf (.builtin id) = pure (.type "method_descriptor")) (hm : MtR X id r) (ho : PE X o to) (ha : PA X (e :: es) t)
    (hbase : attributeBase o name X.env (eval o X.env) = eval o X.env := by rfl)
    (hfew : ((backTo cpos (starEach (e :: es) X.env)).all (fun x => !x.1) && (backToKw cpos (keywordEach [] X.env)).all (fun x => x.1.isSome)
      && decide ((e :: es).length + ([] : List Keyword).length + (if ([] : List Keyword).isEmpty then 0 else 1) < 30)) = true := by rfl)
    (hline : (apos.endLine == cpos.line) = true := by rfl) (hs : starEach (e :: es) X.env = (false, eval e X.env) :: starEach es X.env := by rfl) (hplain : (backTo cpos (starEach es X.env)).any (·.1) = false := by rfl) :
    PE X (.Call (.Attribute o name apos) (e :: es) [] cpos) (tBMT r to t) := by
  intro pins s σ H Q I h;refine wpAny_Call_method_late hbase hfew hline rfl (thn (ho pins s σ H _ I h) fun v s1 ⟨x, H1, I1, r1, ⟨p, ys, ex, hp⟩, q1⟩ => ?_);subst ex;obtain rfl : v = Value.ref p := r1;obtain ⟨z, its, rr, ob, e1, c1, n1, d1, f1⟩ := (show ObjOk X.prog X.w H1 s1.heap p (.tup ys) from hp.ok I1.hok);have h1 : s1.TypeIs (.ref p) "tuple" := ⟨ob, e1, c1⟩
  have h2 : ∀ a, Value.ref p = .ref a -> ∃ ob, s1.heap.get? a = some ob /\ ob.dict = none := fun a e => by
    cases e;exact ⟨ob, e1, f1⟩
  refine ⟨"tuple", id, pa, slot, hty, h1, h2, ?_⟩;have hA := ha cpos pins s1 σ H1 _ I1 q1;rw [hs] at hA ⊢;refine Calls.callWith_builtin (by show (false || (backTo cpos (starEach es X.env)).any (·.1)) = false; rw [hplain] <;> rfl) (Calls.evalArgs_plain ?_);exact thn hA fun us s2 ⟨vs, H2, I2, r2, q2⟩ => hm pins s2 σ H2 (.ref p) vs (.ref p) us Q I2 rfl r2 q2
end
end L2
namespace L2
open PySem PySem.Spec PyProof.Rows
theorem zbm {i : Int} {n : Nat} (h1 : -(2 ^ n) < i) (h2 : i < 2 ^ n) : Builtin.Int.intBits i <= n := by
  unfold Builtin.Int.intBits
  split
  . exact ZE _
  . rename_i h
    have h0 : i ≠ 0 := fun e => h (by rw [e]; rfl)
    have hn : i.natAbs < 2 ^ n := by
      have e : ((2 ^ n : Nat) : Int) = (2 : Int) ^ n := by rw [Int.natCast_pow]; rfl
      have : (i.natAbs : Int) < ((2 ^ n : Nat) : Int) := by rw [e]; omega
      exact_mod_cast this
    exact (Nat.log2_lt (by omega)).mpr hn
def CMulB (i j : Int) : Prop := (-(10 ^ 60) <= i /\ i <= 10 ^ 60) /\ -(10 ^ 60) <= j /\ j <= 10 ^ 60
theorem CMulB.ok {i j : Int} (h : CMulB i j) : IntMulOk i j := by
  have e : (10 : Int) ^ 60 < 2 ^ 200 := by decide
  obtain ⟨⟨a, b⟩, c, d⟩ := h;exact .of_bits (Zd (zbm (n := 200) (by omega) (by omega)) (by decide)) (Zd (zbm (n := 200) (by omega) (by omega)) (by decide))
theorem zhb {X : Cx} : OpR X (binaryOp .Mult) (rI CMulB fun i j => .int (i * j)) := opI fun _ _ _ _ _ _ _ hc q => mul_int q hc.ok
end L2
namespace L2
open PySem
section
variable {prog : Program} {w : World} {A : Around} {E : Value -> Shared -> Prop} {s : Shared}
end
section
variable {prog : Program} {w : World} {A : Around} {E : Value -> Shared -> Prop} {s : Shared}
end
section
variable {prog : Program} {w : World} {A : Around} {E : Value -> Shared -> Prop} {s : Shared}
end
end L2
namespace L2
open PySem PySem.Spec PyProof.Rows
section
variable {X : Cx} {pins : List (Addr × Obj)} {σ : St} {H : Hp} {s : Shared}
end
section
variable {σ : St} {k : Nat} {g : TG} {tt : TT} {te : TE} {H1 : Hp} {Fin : List V -> Hp -> Prop}
end
end L2
namespace L2
open PySem PySem.Spec PyProof.Rows
section
variable {prog : Program} {w : World} {K : Type} [DecidableEq K] {knd : KeyKind prog w K}
end
end L2
namespace L2
open PySem PySem.Spec PyProof.Rows
section
variable {X : Cx} {pins : List (Addr × Obj)} {σ : St} {H : Hp} {s : Shared}
end
end L2
namespace L2
open PySem
end L2
namespace L2
open PySem PySem.Spec PyProof.Rows
section
variable {X : Cx} {pins : List (Addr × Obj)} {σ : St} {H : Hp} {k : Nat} {f : Addr} {fd : FuncData} {ps : List Str} {sp : Sp}
end
end L2
namespace L2
open PySem PySem.Spec PyProof.Rows
section
variable {X : Cx}
end
end L2
namespace L2
open PySem PySem.Spec PyProof.Rows
section
variable {X : Cx}
end
end L2
namespace L2
open PySem PySem.Spec PyProof.Rows
section
variable {X : Cx} {pins : List (Addr × Obj)} {σ : St} {H2 : Hp} {s₂ : Shared} {scope : Scope} {ts N2 : List Str} {cl : List (Str × Addr)} {C D : Addr} {fp : List Addr}
end
end L2
namespace L2
open PySem PySem.Spec PyProof.Rows
end L2
namespace L2
open PySem PySem.Spec PyProof.Rows
section
variable {X : Cx}
end
end L2
namespace L2
open PySem PySem.Spec PyProof.Rows
section
variable {M : Model} {A : Around} {E : Value -> Shared -> Prop} {s : Shared}
theorem i6 {x : Value} {e1 e2 : Env} (h : e1.frame = e2.frame) : noteFrame x e1 = noteFrame x e2 := by unfold noteFrame PySem.frameOf; rw [h]
theorem ff {base : Heap} {l : List Env} {e : Addr} {cls a0 fl : Value} (fr : Option Addr) {Q : Unit -> Shared -> Prop}
    (hkb : base.StaysIn s.heap) (hl : s.heap.FunFrames base l) (ht : s.heap.TracedAtW base e cls a0 fl)
    (h : ∀ h', base.StaysIn h' -> h'.FunFrames base l -> h'.TracedAtW base e cls a0 (fr.elim Value.none fun f => rawInt f) -> (∀ b o, s.heap.get? b = some o -> (∀ vs, o.data ≠ .fields vs) -> h'.get? b = some o) -> Q () { s with heap := h' }) :
    wpAny M A (setFlight (.ref e) fr) Q E s := by
  obtain ⟨oe, vs, T, oT, ts, he, hcls, hd, h1, hnT, hTe, hT, hdT, h3⟩ := ht;have hsz3 : 3 < ts.size := (Yg.mp h3).1
  have other : ∀ b, b ≠ T -> (s.heap.update T (Obj.mapFields (·.setIfInBounds 3 (fr.elim Value.none fun f => rawInt f)))).get? b = s.heap.get? b :=
    fun b hb => Heap.get?_update_other _ _ (Ne.symm hb)
  have noRecord : ∀ b o, s.heap.get? b = some o -> (∀ vs, o.data ≠ .fields vs) -> b ≠ T := fun b o hb hnf q => by
    rw [q, hT] at hb; injection hb with hb; subst hb; exact hnf ts hdT
  unfold setFlight;refine wpAny_bind (wpAny_field he hd h1 ?_);rw [if_pos (show (Value.ref T != Value.none) = true from by simp)]
  refine wpAny_setField hT hdT hsz3 (h _ (fun b o hbo => (other b fun q => by rw [q, hnT] at hbo; cases hbo).trans (hkb b o hbo))
    (hl.of_keeps fun b o hb hnf => ⟨o, (other b (noRecord b o hb hnf)).trans hb, rfl⟩) ?_ fun b o hb hnf => (other b (noRecord b o hb hnf)).trans hb)
  exact ⟨oe, vs, T, _, _, (other e (Ne.symm hTe)).trans he, hcls, hd, h1, hnT, hTe, Heap.get?_update_self _ hT (Obj.isFreed_of_fields (Obj.data_mapFields hdT _)), Obj.data_mapFields hdT _, by simp [hsz3]⟩
theorem aw {base : Heap} {env : Env} {outer : List Env} {L e : Addr} {cls a0 fl : Value} {Q : Unit -> Shared -> Prop}
    (hfr : A.frames = some (env :: outer)) (hf : env.frame = some L) (hkb : base.StaysIn s.heap) (hen : base.get? e = none) (hl : s.heap.FunFrames base (env :: outer)) (ht : s.heap.TracedAtW base e cls a0 fl)
    (hQ : ∀ h', Heap.FlyingW base outer e cls a0 h' -> s.heap.UpToSlots h' -> Q () { s with heap := h' }) : wpAny M A (leaving env (.ref e)) Q E s := by
  by_cases hfl : fl = rawInt L
  . subst hfl
    unfold leaving;refine wpAny_bind (wpAny_noteFrame_againW hf ht ?_);refine wpAny_landsW (l := env :: outer) ⟨hkb, hen, hl, ht⟩ fun h' hfl ups => ?_
    obtain ⟨k1, k2, ⟨_, _, k3⟩, k4⟩ := hfl;exact hQ h' ⟨k1, k2, k3, k4⟩ ups
  . obtain ⟨oe, vs, T, oT, ts, he, ⟨hcls, h0⟩, hd, h1, hnT, hTe, hT, hdT, h3⟩ := ht
    subst hcls;unfold leaving noteFrame;simp only [hf];refine wpAny_bind (wpAny_bind (wpAny_field he hd h1 ?_));rw [if_pos (show (Value.ref T != Value.none) = true from by simp)];refine wpAny_bind (wpAny_field hT hdT h3 ?_);rw [if_neg (show ¬ ((fl == rawInt L) = true) from fun z => hfl (eq_of_beq z))];refine wpAny_bind (wpAny_setField hT hdT (Yg.mp h3).1 ?_);have other : ∀ b, b ≠ T -> (s.heap.update T (Obj.mapFields (·.setIfInBounds 3 Value.none))).get? b = s.heap.get? b := fun b hb => Heap.get?_update_other _ _ (Ne.symm hb)
    have noRecord : ∀ b o, s.heap.get? b = some o -> (∀ vs, o.data ≠ .fields vs) -> b ≠ T := fun b o hb hnf q => by
      rw [q, hT] at hb; injection hb with hb; subst hb; exact hnf ts hdT
    refine wpAny_newEntryW hfr (hl.of_keeps fun b o hb hnf => ⟨o, (other b (noRecord b o hb hnf)).trans hb, rfl⟩) hf ((other e (Ne.symm hTe)).trans he)
      (fun b o hbo => (other b fun q => by rw [q, hnT] at hbo; cases hbo).trans (hkb b o hbo)) hen hd (Yg.mp h1).1 h0
      fun h' ⟨x1, ⟨_, _, x2⟩, x3, x4⟩ => hQ h' ⟨x1, hen, x2, x3⟩ fun b o hb hnf => x4 b o ((other b (noRecord b o hb hnf)).trans hb) hnf
end
theorem kz {B h h' : Heap} {C : Addr} {oC : Obj} (hB : B.get? C = some oC) (sb : Heap.SameBut C h h') : ∀ {l : List Env}, h.FunFrames B l -> h'.FunFrames B l
  | [], _ => trivial
  | _ :: _, ⟨hk, ⟨L, o, hf, hn, ho, hd⟩, hr⟩ => ⟨hk, ⟨L, o, hf, hn, (sb.2 L (fun z => by rw [z, hB] at hn; cases hn)).trans ho, hd⟩, kz hB sb hr⟩
theorem zec {fs : List Addr} {H0 H1 : Hp} {h0 h1 h2 B : Heap} (u : Un fs [] H0 H1 h0 h1) (dom2 : ∀ b o, h0.get? b = some o -> b ∉ fs -> ∃ ob, B.get? b = some ob /\ (H0 b = none -> ob = o))
    (bh' : B.StaysIn h2) (sl : ∀ b ∈ fs, ∀ o, h1.get? b = some o -> (∀ vs, o.data ≠ .fields vs) -> ∃ sl, h2.get? b = some { o with slots := sl }) (hfr : ∀ b ∈ fs, ∀ o, h1.get? b = some o -> ∀ vs, o.data ≠ .fields vs) : Un fs [] H0 H1 h0 h2 where
  keep := fun b o e n hb _ => by
    obtain ⟨ob, e1, e2⟩ := dom2 b o e hb;rw [e2 n] at e1;exact bh' b o e1
  slot := fun b o e n hb hx => by
    obtain ⟨s1, e1⟩ := u.slot b o e n hb hx;obtain ⟨s2, e2⟩ := sl b hb _ e1 (hfr b hb _ e1);exact ⟨s2, e2⟩
  free := u.free
  there := fun b o e hx => by
    by_cases hb : b ∈ fs
    . obtain ⟨o1, e1⟩ := u.there b o e hx
      obtain ⟨s2, e2⟩ := sl b hb _ e1 (hfr b hb _ e1);exact ⟨_, e2⟩
    . obtain ⟨ob, e1, _⟩ := dom2 b o e hb
      exact ⟨ob, bh' b ob e1⟩
  tups := u.tups
  frzs := u.frzs
  tbls := u.tbls
section
variable {X : Cx} {pins : List (Addr × Obj)} {σ : St} {H : Hp} {s : Shared}
theorem stk_lt (I : Inv X pins σ H s) {b : Addr} (hb : b ∈ frs X.stack) : b < s.heap.objs.size := by
  obtain ⟨_, o, e, _⟩ := I.stack.mem hb;exact Heap.lt_size e
theorem passC {P : Program} {w : World} {K : Fg} {mg : Str -> Option Value} {base : Heap} {NN : List Str} {qual : Str} {scp : Scope} {f : Addr} {cd : Value} {A : Around} {outer : List Env} {s0 : Shared} {H0 : Hp} {E : XK} {use : Option (Value -> Sem Unit)} {Q : Value -> Shared -> Prop} {acc : Value} {scope : Scope} {cl : List (Str × Addr)} {C : Addr} {m : Str -> Option Value} {e : Value} {s' : Shared}
    (hX : X = cxOf (CX1 P w) P w K mg base NN qual scp f cd A outer s0 H0 E) (I : Inv X pins σ H s) (hn : s.heap.Ns C m) (hf : H C = none) (hC : X.s₀.heap.objs.size <= C) (hL : C ≠ X.env.locals) (hS : ∀ b ∈ frs X.stack, b ≠ C)
    (h : CX1 X.prog X.w X.stack H s (fun c _ H' => E c none H') e s') :
    notedBy (model X.prog X.w) X.A (compEnvC scope cl C X.env) (fun x s1 => compPost (model X.prog X.w) X.A X.xe use Q acc C (.error x) s1) e s' := by
  subst hX;obtain ⟨ea, Ce, a0, B, H', rfl, os, bare, un, hok, fl, hea, dom, dom2, hE1⟩ := h;obtain ⟨oC, esC, epC, hoC, rC⟩ := hn;obtain ⟨ob, hBC, hob⟩ := dom2 C oC hoC (fun z => hS C z rfl);rw [hob hf] at hBC;unfold notedBy;rw [i6 (e1 := compEnvC scope cl C (cxOf (CX1 P w) P w K mg base NN qual scp f cd A outer s0 H0 E).env) (e2 := envOfC qual scp s0.heap.objs.size f cd) rfl];refine wpAny_looks_onW I.ok.frames rfl fl fun h1 held ups => ?_
  obtain ⟨g1, g2, g3, g4⟩ := held
  have hk : ∃ m, h1.Ns C m /\ ∀ h', Heap.SameBut C h1 h' -> ∀ cenv : Env, cenv.locals = C -> wpAny (model P w) (A.deeper (envOfC qual scp s0.heap.objs.size f cd)) (PySem.passOn "comprehension.variables-let-go" (.ref ea) cenv : Sem Value) (fun _ _ => False) (cxOf (CX1 P w) P w K mg base NN qual scp f cd A outer s0 H0 E).xe { s' with heap := h' } := by
    refine ⟨m, ⟨oC, esC, epC, g1 C oC hBC, rC⟩, fun h' sb cenv _ => ?_⟩;have kB : (PySem.W.hideAll B [C]).StaysIn B := fun b o q => PySem.W.of_hideAll _ q
    have neB : ∀ b o, (PySem.W.hideAll B [C]).get? b = some o -> b ≠ C := fun b o q z => by
      rw [z, PySem.W.hideAll_none [C] (by simp)] at q; cases q
    have inB : ∀ b o, B.get? b = some o -> b ≠ C -> (PySem.W.hideAll B [C]).get? b = some o := fun b o q n => PySem.W.hideAll_get [C] q (by simpa using n)
    have st' : (PySem.W.hideAll B [C]).StaysIn h' := fun b o q => (sb.2 b (neB b o q)).trans (g1 b o (kB b o q))
    have ff' : h'.FunFrames (PySem.W.hideAll B [C]) (envOfC qual scp s0.heap.objs.size f cd :: outer) := PySem.W.funFrames_base kB (kz hBC sb g3);have he' : (PySem.W.hideAll B [C]).get? ea = none := PySem.W.fresh_of_stays kB g2
    have tr' : h'.TracedAtW (PySem.W.hideAll B [C]) ea (.ref Ce) a0 (rawInt s0.heap.objs.size) := by
      obtain ⟨oe, vs, T, oT, ts, a1, a2, a3, a4, a5, a6, a7, a8, a9⟩ := g4;exact ⟨oe, vs, T, oT, ts, (sb.2 ea (fun z => by rw [z, hBC] at g2; cases g2)).trans a1, a2, a3, a4, PySem.W.fresh_of_stays kB a5, a6, (sb.2 T (fun z => by rw [z, hBC] at a5; cases a5)).trans a7, a8, a9⟩
    unfold PySem.passOn;have tr2 := tr';obtain ⟨oe, vs, T, oT, ts, a1, a2, a3, a4, a5, a6, a7, a8, a9⟩ := tr2;refine wpAny_bind (wpAny_field (s := { s' with heap := h' }) a1 a3 a4 ?_);rw [if_neg (show ¬ ((Value.ref T == Value.none) = true) from by simp)];refine wpAny_bind (ff (s := { s' with heap := h' }) (l := envOfC qual scp s0.heap.objs.size f cd :: outer) cenv.frame st' ff' tr' fun h2 b1 b2 b3 b4 => ?_);refine wpAny_throw ?_
    show wpAny _ _ (leaving _ (.ref ea)) _ _ _
    refine aw (s := { s' with heap := h2 }) I.ok.frames rfl b1 he' b2 b3 fun h3 x1 x2 => ?_
    have hst : s'.heap.FunFrames B (envOfC qual scp s0.heap.objs.size f cd :: outer) := fl.2.2.1;have un0 : Un (frs outer) [] H0 H s0.heap s.heap := I.base
    have sub : ∀ b ∈ frs outer, b ∈ frs (envOfC qual scp s0.heap.objs.size f cd :: outer) := fun b hb => by
      obtain ⟨env, he, hf⟩ := ZS.mp hb;exact ZS.mpr ⟨env, Zv _ he, hf⟩
    have notL : ∀ b o, s0.heap.get? b = some o -> b ∉ frs outer -> b ∉ frs (envOfC qual scp s0.heap.objs.size f cd :: outer) := fun b o q n z => by
      rcases ZK.mp (I.stkSub b z) with y | y
      . have h1 : s0.heap.objs.size <= b := by rw [y]; exact I.ok.above
        exact absurd (Zh (Heap.lt_size q) h1) (ZJ _)
      . exact n y
    have ut := (un0.mono sub (fun _ z => z)).trans un;have un1 : Un (frs outer) [] H0 H' s0.heap s'.heap := ⟨fun b o e n hb hx => ut.keep b o e n (notL b o e hb) hx, fun b o e n hb hx => ut.slot b o e n (sub b hb) hx, ut.free, ut.there, ut.tups, ut.frzs, ut.tbls⟩;have hf' : H' C = none := un.free C oC hoC hf (by simp)
    have dom' : ∀ b o, H' b = some o -> ∃ ob, (PySem.W.hideAll B [C]).get? b = some ob := fun b o q => by
      obtain ⟨ob, e1⟩ := dom b o q;exact ⟨ob, inB b ob e1 (fun z => by rw [z, hf'] at q; cases q)⟩
    have dom2' : ∀ b o, s0.heap.get? b = some o -> b ∉ frs outer -> ∃ ob, (PySem.W.hideAll B [C]).get? b = some ob /\ (H0 b = none -> ob = o) := fun b o q n => by
      obtain ⟨o1, e1⟩ := un0.there b o q (by simp);obtain ⟨ob, k1, k2⟩ := dom2 b o1 e1 (notL b o q n);refine ⟨ob, inB b ob k1 (fun z => ?_), fun z => ?_⟩
      . have h1 : s0.heap.objs.size <= b := by rw [z]; exact hC
        exact absurd (Zh (Heap.lt_size q) h1) (ZJ _)
      . have e2 := un0.keep b o q z n (by simp)
        rw [e1] at e2;cases e2;exact k2 (un0.free b _ q z (by simp))
    have hfr : ∀ b ∈ frs outer, ∀ o, s'.heap.get? b = some o -> ∀ vs, o.data ≠ .fields vs := fun b hb o q => by
      obtain ⟨_, o', e', n'⟩ := hst.mem (b := b) (sub b hb);rw [q] at e'; cases e';exact n'
    have sl : ∀ b ∈ frs outer, ∀ o, s'.heap.get? b = some o -> (∀ vs, o.data ≠ .fields vs) -> ∃ sl, h3.get? b = some { o with slots := sl } := fun b hb o q n => by
      obtain ⟨s1, e1⟩ := ups b o q n;have e2 := (sb.2 b (hS b (sub b hb))).trans e1;have e3 := b4 b _ e2 n;obtain ⟨s3, e4⟩ := x2 b _ e3 n;exact ⟨s3, e4⟩
    exact ⟨ea, Ce, a0, PySem.W.hideAll B [C], H', rfl, os.trans I.os, bare, zec un1 dom2' x1.1 sl hfr, HOk.flown hok (fun b o q => fl.1 b o (kB b o q)) x1.1 dom', x1, hea, dom', dom2', hE1⟩
  cases use <;> exact hk
end
theorem ao {prog : Program} {w : World} {A : Around} {R : Result -> Shared -> Prop} {s : Shared} {elt target iter : Expr} {ifs : List Expr} {scope : Scope} {pos : Pos} {it acc : Value} {env : Env} (I : Nat -> Shared -> Prop)
    (turn : ∀ n s, I n s -> wpAny (model prog w) A (pyNext it) (fun r s₁ => match r with
      | none => R (.ok .next) s₁
      | some v => wpAny (model prog w) A (letOwnedTupleGo target it v) (fun _ s₁' => wpAny (model prog w) A (assign target env v) (fun _ s₂ =>
          wpAny (model prog w) A (forIn ifs true fun c r => if r = true then do let ok <- isTrue c env (eval c env); pure (ForInStep.yield ok) else pure (ForInStep.yield r)) (fun ok s₃ =>
            if ok = true then wpAny (model prog w) A (eval elt env) (fun x s₄ =>
              wpAny (model prog w) A (call (.builtin "list.append") [acc, x]) (fun _ s₅ => ∃ m, m < n /\ I m s₅) (fun _ _ => False) s₄) (notedBy (model prog w) A env fun x s' => R (.error x) s') s₃
            else ∃ m, m < n /\ I m s₃) (fun _ _ => False) s₂) (fun _ _ => False) s₁') (fun _ _ => False) s₁) (fun _ _ => False) s)
    (n : Nat) (h : I n s) :
    codeAny (model prog w) A (.compLoop (.ListComp elt [⟨target, iter, ifs, 0⟩] scope pos) 0 it acc env) R s := by
  refine codeAny_loop rfl I (fun n s hI => ?_) n h
  show wpAny _ A ((compTurn (.ListComp elt [⟨target, iter, ifs, 0⟩] scope pos) 0 it acc env).onRaise (fun x => do noteFrame x env; theTreesLotGoes x)) _ _ s
  refine wpAny_noted ?_;rw [compTurn_list];refine wpAny_bind (wpAny_standAt (wpAny_bind (wpAny_mono (turn n s hI) (fun r s₁ h₁ => ?_) fun _ _ f => f.elim)))
  cases r with
  | none => exact wpAny_pure h₁
  | some v =>
    refine wpAny_bind (wpAny_mono h₁ (fun _ s₁' h₁' => ?_) fun _ _ f => f.elim);refine wpAny_bind (wpAny_mono h₁' (fun _ s₂ h₂ => wpAny_bind (wpAny_mono h₂ (fun ok s₃ h₃ => ?_) fun _ _ f => f.elim)) fun _ _ f => f.elim)
    cases ok with
    | false => exact wpAny_pure ⟨rfl, h₃⟩
    | true =>
      exact wpAny_bind (wpAny_bind (wpAny_mono h₃ (fun x s₄ h₄ => wpAny_bind (wpAny_mono h₄ (fun _ s₅ h₅ => wpAny_pure (wpAny_pure ⟨rfl, h₅⟩)) fun _ _ f => f.elim)) fun _ _ f => f))
section
variable {X : Cx} {pins : List (Addr × Obj)} {σ : St} {H2 : Hp} {s₂ : Shared} {scope : Scope} {ts N2 : List Str} {cl : List (Str × Addr)} {C D : Addr} {fp : List Addr}
theorem zgd (I2 : Inv X pins σ H2 s₂) (f2 : ∀ b ∈ fp, FpOk X pins H2 b) {σ' : St} {H' : Hp} {s' : Shared} {pl : List (Addr × Obj)}
    (J : Inv (yb X scope (ts ++ N2) ⟨cl, C, s₂, H2, fp⟩) pl σ' H' s') : Inv X pins σ H' s' :=
  I2.call' (ch := fp) J.os J.base J.hok J.bare fun b hb => by
    obtain ⟨f0, f1, f3, f4, f5, f6⟩ := f2 b hb;exact ⟨f4, f1, f5, f6⟩
theorem zau {Ex : Value -> Hp -> Prop} {E : Value -> Shared -> Prop} {tg elt iter : Expr} {ifs : List Expr} {pos : Pos} {it : Addr} {tn : Nat -> Heap -> Prop} {J : It} {g : Dyn -> TG} {tt : Dyn -> TT} {te : Dyn -> TE} {RR : Value -> Addr -> Result -> Shared -> Prop} {Fin : List V -> Hp -> Prop}
    (I2 : Inv X pins σ H2 s₂) (hc : X.calm = true) (T : Turn X.prog X.w X.K tg J fp it tn) (st : tn 0 s₂.heap) (f2 : ∀ b ∈ fp, FpOk X pins H2 b) (hkind : scope.kind = .function) (hown : qu scope.names = true) (hfree : rm scope.names X.env = true) (hout : wx scope.names N2 X.N = true)
    (hcl1 : ∀ x c, cl.lookup x = some c -> X.env.cells.lookup x = some c) (hcl2 : ∀ y ∈ scope.names, y.2 = .free -> ∃ c, cl.lookup y.1 = some c)
    (hg : ∀ d, PG (yb X scope (ts ++ N2) d) tg (g d)) (ht : ∀ d, PTs (yb X scope (ts ++ N2) d) ifs (tt d)) (he : ∀ d pn, PE (ku (yb X scope (ts ++ N2) d) pn fun _ c H' => Ex c H') elt (te d))
    (hW : ∀ d, rb J σ ts.length (g d) (tt d) (te d) H2 Fin)
    (hRR : ∀ D C s' H' ys, s₂.heap.objs.size <= C -> C ≠ D -> Inv X pins σ (upd H' D (.lst ys)) s' -> H' D = none -> H' C = none -> (∃ m, s'.heap.Ns C m) -> ys.length <= sizeLine -> Fin ys H' -> RR (.ref D) C (.ok .next) s')
    (hRE : ∀ acc C H' s' e s'' m, s₂.heap.objs.size <= C -> Inv X pins σ H' s' -> s'.heap.Ns C m -> H' C = none -> CX1 X.prog X.w X.stack H' s' (fun c _ H'' => Ex c H'') e s'' -> notedBy (model X.prog X.w) X.A (compEnvC scope cl C X.env) (fun x s1 => RR acc C (.error x) s1) e s'') :
    wpAny (model X.prog X.w) X.A (newList []) (fun acc s₃ => wpAny (model X.prog X.w) X.A (newFunctionEnv scope X.env.globals cl [] X.env.qual none .none (some X.env)) (fun cenv s₄ =>
      codeAny (model X.prog X.w) X.A (.compStart (.ListComp elt [⟨tg, iter, ifs, 0⟩] scope pos) 0 (.ref it) acc { cenv with scope := relabel scope X.env }) (RR acc cenv.locals) s₄) E s₃) E s₂ := by
  refine wpAny_newObj_type (wpAny_newFunctionEnv (ky hown) (by intro y hy; simp at hy) (fun h₁ hns₁ hsb₁ => ?_) hkind);dsimp only at hns₁ hsb₁ ⊢;generalize hH2 : s₂.heap.push { cls := .type "list", dict := none, data := .seq ([] : List Value).toArray } = HP at hns₁ hsb₁ ⊢;have hC : HP.objs.size = s₂.heap.objs.size + 1 := by rw [<- hH2, Heap.size_push]
  have hDC : s₂.heap.objs.size ≠ HP.objs.size := by rw [hC]; exact Zs (YF _)
  have hCle : s₂.heap.objs.size <= HP.objs.size := by rw [hC]; exact YE _
  have below : ∀ b, b < s₂.heap.objs.size -> b ≠ HP.objs.size /\ b ≠ s₂.heap.objs.size := fun b hb => ⟨by rw [hC]; exact Zs (Yo hb), Zs hb⟩
  have old : ∀ b o, s₂.heap.get? b = some o -> h₁.get? b = some o := fun b o e => hsb₁.extBut b o (below b (Heap.lt_size e)).1 (Heap.get?_push_of_some _ (hH2 ▸ Heap.get?_push_of_some _ e))
  have hacc : h₁.get? s₂.heap.objs.size = some (lobj []) := hsb₁.extBut _ _ hDC (Heap.get?_push_of_some _ (hH2 ▸ Heap.get?_push_size _ rfl))
  have flt : ∀ b ∈ fp, b < s₂.heap.objs.size := fun b hb => by
    obtain ⟨o, e, _⟩ := T.obj _ _ st b hb;exact Heap.lt_size e
  generalize hDD : s₂.heap.objs.size = D at *;generalize hCC : HP.objs.size = C at *;have hDle : s₂.heap.objs.size <= D := Nat.le_of_eq hDD;have I4 := fun (tk : Nat) => i7 (ts := ts) (D := D) (C := C) (tk := tk) I2 hc (fun b hb => ⟨f2 b hb, by rw [hDD]; exact flt b hb⟩) hkind hown hfree hout hcl1 hcl2 (by rw [hDD]; exact hCle) hDC hDle hns₁ old hacc
  generalize hd : (⟨cl, C, s₂, H2, fp⟩ : Dyn) = d at *;obtain ⟨W, ⟨m0, w0⟩, turn⟩ := hW d
  have Xs : ∀ {pl : List (Addr × Obj)} {H' : Hp}, (∀ b ∈ fp, H' b = none) -> (∀ p ∈ pl, p.1 = D) -> ∀ b ∈ fp, FpOk (yb X scope (ts ++ N2) d) pl H' b := fun {pl H'} hn hp b hb => by
    subst hd;obtain ⟨f0, f1, f3, f4, f5, f6⟩ := f2 b hb;refine ⟨hn b hb, (below b (flt b hb)).1, fun z => ?_, .inl hb, fun x c e => f5 x c (hcl1 x c e), fun p hp' => ?_⟩
    . rcases ZK.mp (I2.stkSub b z) with z | z
      . exact f1 z
      . exact f3 z
    . rw [hp p (by simpa using hp')]
      exact Ne.symm (below b (flt b hb)).2
  have loop : ∀ s₃ : Shared, s₃ = { s₂ with heap := h₁, toks := s₂.toks + ([] : List (Str × Value)).length } ->
      codeAny (model X.prog X.w) X.A (.compLoop (.ListComp elt [⟨tg, iter, ifs, 0⟩] scope pos) 0 (.ref it) (.ref D) (compEnvC scope cl C X.env)) (RR (.ref D) C) s₃ := by
    rintro s₃ rfl
    refine ao (fun n s' => ∃ i ys H' its, Inv (yb X scope (ts ++ N2) d) [(D, lobj its)] (List.replicate ts.length none ++ σ) H' s' /\ tn i s'.heap /\ (∀ b ∈ fp, H' b = none) /\ Vals ys its /\ W i n ys H') ?_ m0
      ⟨0, [], H2, [], I4 _, T.keep _ _ _ st fun b _ o e => old b o e, fun b hb => (f2 b hb).1, .nil, w0⟩
    rintro n s3 ⟨i, ys, H3, its, I3, st3, fr3, hv3, w3⟩
    obtain ⟨hlen, tr⟩ := turn i n ys H3 w3
    have one : ∀ p ∈ [(D, lobj its)], p.1 = D := fun p hp => by
      have e : p = (D, lobj its) := by simpa using hp
      rw [e]
    have eenv : (yb X scope (ts ++ N2) d).env = compEnvC scope cl C X.env := by subst hd; rfl
    rcases tr with ⟨stop, fin⟩ | ⟨go, N, hN, step⟩
    . refine thn (T.done (yb X scope (ts ++ N2) d) rfl rfl rfl rfl i _ s3 _ H3 (fun _ _ => False) I3 (Xs fr3 one) st3 stop) fun r s4 ⟨hr, J4⟩ => ?_
      subst hr
      show RR (.ref D) C (.ok .next) s4
      obtain ⟨pe, pn, _⟩ := J4.pin (D, lobj its) (by simp);have fC : H3 C = none := by have := J4.free; rw [eenv] at this; exact this
      have nC : ∃ m, s4.heap.Ns C m := by
        obtain ⟨m, z, _⟩ := J4.loc;rw [eenv] at z;exact ⟨m, z⟩
      subst hd;exact hRR D C s4 H3 ys hCle (Ne.symm hDC) (ah I2 f2 hDle J4 pe pn hv3 hlen) pn fC nC hlen fin
    . refine thn (T.item (yb X scope (ts ++ N2) d) rfl rfl rfl rfl i _ s3 _ H3 (fun _ _ => False) I3 (Xs fr3 one) st3 go) fun r s4 ⟨u, hr, h4⟩ => ?_
      subst hr;refine thn h4 fun _ s5 ⟨x, H5, I5, r5, y5, st5, fr5⟩ => ?_
      have I5' := I5.pinned (Xs fr5 one) (T.obj _ _ st5);rw [<- eenv];refine thn (hg d _ s5 _ H5 x u _ I5' r5 (step x H5 y5)) fun _ s6 ⟨σ6, H6, I6, hdrop, q6⟩ => ?_
      have back : ∀ {ys' : List V} {its' : List Value} {H' : Hp} {s' : Shared} {pl : List (Addr × Obj)}, Inv (yb X scope (ts ++ N2) d) ([(D, lobj its')] ++ pl) σ6 H' s' -> Inv (yb X scope (ts ++ N2) d) [(D, lobj its')] (List.replicate ts.length none ++ σ) H' s' := fun {ys' its' H' s' pl} I' => by
        have hl : σ6.length = (ts ++ N2).length := I'.len;refine (I'.pins_of (pins' := [(D, lobj its')]) fun p hp => I'.pin p (Zu _ (ZV _ hp))).weak ?_ ?_
        . rw [hl]; exact I3.len
        . intro j v e
          by_cases hj : j < ts.length
          . rw [Zg (by simpa using hj), Yk] at e
            split at e <;> cases e
          . have hj' : ts.length <= j := ZD.mp hj
            rw [Zf (by simpa using hj'), ZI, <- hdrop, YK] at e;rw [show ts.length + (j - ts.length) = j by omega] at e;exact e
      refine thn (ht d _ s6 σ6 H6 _ I6 q6) fun b s7 ⟨H7, I7, q7⟩ => ?_
      have pinsOf : ∀ {its' : List Value} {H' : Hp} {s' : Shared}, Inv (yb X scope (ts ++ N2) d) ([(D, lobj its')] ++ m8 fp s5.heap) σ6 H' s' -> (∀ b ∈ fp, ∀ o, s5.heap.get? b = some o -> s'.heap.get? b = some o) /\ ∀ b ∈ fp, H' b = none := fun {its' H' s'} I' => by
        refine ⟨fun b hb o e => (I'.pin (b, o) (Zu _ (Zu _ (wt hb e)))).1, fun b hb => ?_⟩;obtain ⟨o, e, _⟩ := T.obj _ _ st5 b hb;exact (I'.pin (b, o) (Zu _ (Zu _ (wt hb e)))).2.1
      cases b with
      | false =>
        have q7' : N ys H7 := by simpa using q7
        obtain ⟨m', hm, w7⟩ := hN _ _ q7';obtain ⟨k1, k2⟩ := pinsOf I7
        show ∃ m, m < n /\ _
        exact ⟨m', hm, i + 1, ys, H7, its, back (ys' := ys) I7, T.keep _ _ _ st5 k1, k2, hv3, w7⟩
      | true =>
        have q7' : te d σ6 H7 fun v H4 => N (ys ++ [v]) H4 := by simpa using q7
        show wpAny _ _ _ _ _ _
        refine wpAny_mono (he d _ _ s7 σ6 H7 _ (I7.intry fun _ c H' => Ex c H') q7') (fun y s8 ⟨v, H8, I8', r8, n8⟩ => ?_) (fun e s8 hx9 => by
          obtain ⟨pl9, σ9, H9, s9, J9, cx9⟩ := hx9;have K9 := Inv.outtry (X := yb X scope (ts ++ N2) d) J9;obtain ⟨m9, n9, _⟩ := id K9.loc;rw [eenv] at n9;have f9 := K9.free;rw [eenv] at f9
          have I9 : Inv X pins σ H9 s9 := by
            subst hd;exact zgd I2 f2 K9
          rw [eenv]
          exact hRE (.ref D) C H9 s9 e s8 m9 hCle I9 n9 f9 cx9)
        have I8 := Inv.outtry (X := yb X scope (ts ++ N2) d) I8';obtain ⟨m', hm, w8⟩ := hN _ _ n8;obtain ⟨k1, k2⟩ := pinsOf I8;obtain ⟨pe, pn, pC, pf, pd⟩ := I8.pin (D, lobj its) (by simp);have hsz : its.toArray.size <= sizeLine := by rw [Zr, <- hv3.length]; exact hlen
        refine append_at (hsz := hsz) pe fun h9 sb9 e9 => ?_
        have J8 : Inv (yb X scope (ts ++ N2) d) [] σ6 H8 s8 := I8.pins_of fun p hp => nomatch hp
        have hDs : (yb X scope (ts ++ N2) d).s₀.heap.objs.size <= D := by subst hd; exact hDle
        have J9 : Inv (yb X scope (ts ++ N2) d) [] σ6 H8 { s8 with heap := h9 } := J8.turned (t' := s8.toks) (it := D) (fun b o hb e => sb9.extBut b o hb e) pn pC (.inr hDs)
          (fun x c e => by
            obtain ⟨v', z⟩ := I3.cell x c e;subst hd;obtain ⟨v2, z2⟩ := I2.cell x c (hcl1 x c e)
            exact Zs (Zh z2.lt hDle)) (fun p hp => nomatch hp)
        have e9' : h9.get? D = some (lobj (its ++ [y])) := by
          rw [e9]
          show some ({ cls := .type "list", data := .seq (its.toArray.push y) (its.length + 1) } : Obj) = some { cls := .type "list", data := .seq (its ++ [y]).toArray (its ++ [y]).length }
          rw [Zo, Yr, List.push_toArray]
        have J9' : Inv (yb X scope (ts ++ N2) d) ([(D, lobj (its ++ [y]))] ++ []) σ6 H8 { s8 with heap := h9 } := J9.pins_of fun p hp => by
          have e : p = (D, lobj (its ++ [y])) := by simpa using hp
          subst e;exact ⟨e9', pn, pC, pf, fun v z => by cases z⟩
        refine ⟨m', hm, i + 1, ys ++ [v], H8, its ++ [y], back (ys' := ys) J9', ?_, k2, hv3.append (.cons r8 .nil), w8⟩;exact T.keep _ _ _ st5 fun b hb o e => sb9.extBut b o (below b (flt b hb)).2 (k1 b hb o e)
  exact codeAny_compStart_list (loop _ rfl) (T.self _ 0 _ _ _ (T.keep _ _ _ st fun b _ o e => old b o e) (loop _ rfl))
end
theorem zfy {X : Cx} {P : Program} {w : World} {K : Fg} {mg : Str -> Option Value} {base : Heap} {NN : List Str} {qual : Str} {scp : Scope} {f : Addr} {cd : Value} {A : Around} {outer : List Env} {s0 : Shared} {H0 : Hp} {E : XK} (hX : X = cxOf (CX1 P w) P w K mg base NN qual scp f cd A outer s0 H0 E) {tg elt iter : Expr} {ifs : List Expr} {scope : Scope} {pos : Pos} (ts N2 : List Str) {wi : TI} {g : Dyn -> TG} {tt : Dyn -> TT} {te : Dyn -> TE} (hc : X.calm = true) (hi : PI X tg iter wi)
    (hg : ∀ d, PG (yb X scope (ts ++ N2) d) tg (g d)) (ht : ∀ d, PTs (yb X scope (ts ++ N2) d) ifs (tt d)) (he : ∀ d pn, PE (ku (yb X scope (ts ++ N2) d) pn fun _ c H' => E c none H') elt (te d))
    (hkind : scope.kind = .function) (hown : qu scope.names = true) (hfree : rm scope.names X.env = true) (hout : wx scope.names N2 X.N = true)
    (hs : ∀ x, foldedSetIterable iter X.env x = pure x := by intro _; rfl) : PE X (.ListComp elt [⟨tg, iter, ifs, 0⟩] scope pos) (cp ts.length wi g tt te) := by
  intro pins s σ H Q I h;obtain ⟨cl, hclos, hcl1, hcl2⟩ := lq (scope := scope) (env := X.env) fun y hy hf => I.ok.has y.1 (ph hfree hy hf)
  rw [eval_ListComp];refine wpAny_comprehension_free (use := none) rfl hs hclos hkind (mn hown) (thn (hi pins s σ H _ I h) fun v s1 h1 => thn h1 fun itv s2 h2 => ?_);obtain ⟨it, fp, tn, J, H2, e, I2, T, st2, f2, hW⟩ := h2;subst e;refine zau (Ex := fun c H' => E c none H') (RR := fun acc C => compPost (model X.prog X.w) X.A X.xe none (EP X pins σ Q) acc C) I2 hc T st2 f2 hkind hown hfree hout hcl1 hcl2 hg ht he hW ?_ (fun acc C H' s' e s'' m hC I' hn hf cx => passC hX I' hn hf (Zd I2.sz hC) (Yq (Zh I2.lt hC)) (fun b hb z => absurd (Zh (stk_lt I2 hb) hC) (by rw [z]; exact ZJ _)) cx);intro D C s' H' ys hC hCD I' hD hCn hNs hl fin;obtain ⟨m, hm⟩ := hNs;refine ⟨m, hm, fun h' sb => ?_⟩
  have I'' : Inv X pins σ (upd H' D (.lst ys)) { s' with heap := h' } := by
    refine I'.turned (t' := s'.toks) (it := C) (fun b o hb e => sb.extBut b o hb e) (by rw [zr hCD]; exact hCn) (Yq (Zh I2.lt hC)) (.inr (Zd I2.sz hC)) (fun x c e => ?_) fun p hp => ?_
    . obtain ⟨v, q⟩ := I2.cell x c e
      exact Zs (Zh q.lt hC)
    . exact Zs (Zh (Heap.lt_size (I2.pin p hp).1) hC)
  exact ⟨.ref D, _, I'', rfl, fin D hD⟩
end L2
namespace L2
open PySem PySem.Spec PyProof.Rows
section
variable {X : Cx}
end
end L2
namespace L2
open PySem PySem.Spec PyProof.Rows
end L2
namespace L2
open PySem PySem.Spec PyProof.Rows
end L2
namespace L2
open PySem PySem.Spec PyProof.Rows
section
variable {X : Cx}
end
section
variable {a b c d t e u : TS} {tc : TT} {D : Ends} {σ : L2.St} {H : Hp}
theorem zdm (h : ∀ T : TS, T = t -> tSeq a T D σ H) : tSeq a t D σ H := h t rfl
theorem hide2 (h : ∀ T : TS, T = t -> tSeq a (tSeq b T) D σ H) : tSeq a (tSeq b t) D σ H := h t rfl
theorem hide4 (h : ∀ T : TS, T = t -> tSeq a (tSeq b (tSeq c (tSeq d T))) D σ H) : tSeq a (tSeq b (tSeq c (tSeq d t))) D σ H := h t rfl
theorem hideL (h : ∀ T U : TS, T = t -> U = u -> tSeq (tIfS tc T e) U D σ H) : tSeq (tIfS tc t e) u D σ H := h t u rfl rfl
end
end L2
namespace L2
open PySem PySem.Spec PyProof.Rows
section
variable {P : Program} {w : World} {A : Around} {E : Value -> Shared -> Prop} {s : Shared}
def RawAt (h : Heap) (d : Addr) (es : Array DictEntry) (ep : Nat) : Prop := ∃ o, h.get? d = some o /\ o.ExactDict /\ o.data = .dict es ep
theorem RawAt.ty {d : Addr} {es : Array DictEntry} {ep : Nat} (x : RawAt s.heap d es ep) : s.TypeIs (.ref d) "dict" := let ⟨o, ho, hc, _⟩ := x; ⟨o, ho, hc.1⟩
theorem RawAt.mv {h h' : Heap} {d : Addr} {es : Array DictEntry} {ep : Nat} (x : RawAt h d es ep) (k : ∀ o, h.get? d = some o -> h'.get? d = some o) : RawAt h' d es ep := let ⟨o, ho, r⟩ := x; ⟨o, k _ ho, r⟩
theorem al {d : Addr} {es : Array DictEntry} {ep : Nat} {Q : Value -> Shared -> Prop} (hd : (d == sysModules) = false) (hm : RawAt s.heap d es ep)
    (hQ : Q (.ref s.heap.objs.size) { s with heap := s.heap.push { cls := .type "dict_keyiterator", data := .fields #[.ref d, .int 0 0, .int es.size 0, .int ep 0] } }) :
    wpAny (model P w) A (pyIter (.ref d)) Q E s := by
  obtain ⟨o, ho, hc, hdat⟩ := id hm;refine wpAny_pyIter_slot hm.ty F.slot_dict_iter (wpAny_call_entry F.slot_dict_iter hm.ty F.entry_dict_iter ?_ (F.args_dict_iter_1 _));unfold Builtin.«dict.__iter__»;refine wpAny_bind ?_;unfold Builtin.Dict.dictSlotNone;refine wpAny_bind (wpAny_notOrdered_dict hm.ty ?_)
  show wpAny _ _ (pure (Value.ref d)) _ _ s
  refine wpAny_pure ?_
  show wpAny _ _ (Builtin.Dict.showsAll d >>= _) _ _ s
  unfold Builtin.Dict.showsAll;rw [if_neg (by rw [hd]; exact Bool.false_ne_true)];refine wpAny_bind (wpAny_pure (wpAny_bind (wpAny_dictEntries ho hdat (wpAny_bind (wpAny_dictEpoch ho hdat ?_)))));refine wpAny_bind (wpAny_newObj_type (wpAny_pure ⟨_, rfl, "dict_keyiterator", _, ⟨_, Heap.get?_push_size _ rfl, rfl⟩, F.slot_dict_keyiterator_next.lookup, ?_⟩))
  simpa [rawInt] using hQ
theorem bi {it d : Addr} {i ep : Nat} {es : Array DictEntry} {Q : Option Value -> Shared -> Prop} (hit : s.heap.IsKeyIter it d i es.size ep) (hm : RawAt s.heap d es ep) (hi : i < es.size)
    (hQ : ∀ h', h'.IsKeyIter it d (i + 1) es.size ep -> Heap.SameBut it s.heap h' -> Q (some es[i].key) { s with heap := h' }) : wpAny (model P w) A (pyNext (.ref it)) Q E s := by
  obtain ⟨o, ho, hc, hd⟩ := id hit;obtain ⟨od, hod, hcd, hdd⟩ := id hm;have hown : Builtin.Dict_items.ownsTuple "dict_keyiterator" = false := by decide
  unfold pyNext
  refine wpAny_bind (wpAny_attempt (wpAny_callSpecial?_slot (name := Str.ofString "__next__") hit.typeIs F.slot_dict_keyiterator_next
    (wpAny_call_entry F.slot_dict_keyiterator_next hit.typeIs F.entry_dict_keyiterator_next ?_ (F.args_dict_keyiterator_next_1 _))))
  refine wpAny_bind (wpAny_pure (wpAny_bind (wpAny_bind ?_)))
  first | refine wpAny_bind (wpAny_typeNameOfWhole_keyiter hit.typeIs (wpAny_pure ?_)) | refine wpAny_bind (wpAny_typeNameOf_keyiter hit.typeIs (wpAny_pure ?_))
  refine wpAny_bind (wpAny_fieldsOf ho hd ?_);simp only [hown, Bool.false_eq_true, if_false]
  show wpAny _ _ (if (Value.ref d == Value.none) = true then _ else _) _ _ s
  rw [if_neg (show ¬ ((Value.ref d == Value.none) = true) from Bool.false_ne_true)];refine wpAny_bind (wpAny_pure (wpAny_bind (wpAny_dictEntries hod hdd ?_)));rw [if_neg (by simp)];refine wpAny_bind (wpAny_pure (wpAny_bind (wpAny_dictEpoch hod hdd ?_)));rw [if_neg (by simp)];refine wpAny_pure ?_;simp only [show ¬ ((i : Int) < 0) from by omega, if_false, Zw, Array.getElem?_eq_getElem hi];refine wpAny_bind ?_
  first | refine wpAny_bind (wpAny_typeNameOfWhole_keyiter hit.typeIs (wpAny_pure ?_)) | refine wpAny_bind (wpAny_typeNameOf_keyiter hit.typeIs (wpAny_pure ?_))
  refine wpAny_bind (wpAny_isOneOf_keyiter hit.typeIs ?_)
  show wpAny _ _ (setField (.ref it) 1 (rawInt ((i : Int) + 1)) >>= _) _ _ s
  refine wpAny_bind (wpAny_setField ho hd (by simp) ?_)
  have hit' : (s.heap.update it (Obj.mapFields (·.setIfInBounds 1 (rawInt ((i : Int) + 1))))).IsKeyIter it d (i + 1) es.size ep :=
    ⟨_, Heap.get?_update_self _ ho (Obj.isFreed_of_fields (Obj.data_mapFields hd _)), (Obj.cls_mapFields ..).trans hc, by rw [Obj.data_mapFields hd]; simp [rawInt]⟩
  refine wpAny_bind (wpAny_holding (wpAny_bind (wpAny_isOneOf_keyiter (s := { s with heap := s.heap.update it (Obj.mapFields (·.setIfInBounds 1 (rawInt ((i : Int) + 1)))) }) hit'.typeIs ?_)))
  show wpAny _ _ (pure es[i].key) _ _ _
  exact wpAny_pure (wpAny_pure ⟨_, rfl, wpAny_pure (hQ _ hit' (Heap.SameBut.update ..))⟩)
theorem zb1 {it d : Addr} {ep : Nat} {es : Array DictEntry} {Q : Option Value -> Shared -> Prop} (hh : A.handled = none) (hit : s.heap.IsKeyIter it d es.size es.size ep) (hm : RawAt s.heap d es ep)
    (hQ : ∀ h', Heap.ExtBut it s.heap h' -> Q none { s with heap := h' }) : wpAny (model P w) A (pyNext (.ref it)) Q E s := by
  obtain ⟨o, ho, hc, hd⟩ := id hit;obtain ⟨od, hod, hcd, hdd⟩ := id hm;have hown : Builtin.Dict_items.ownsTuple "dict_keyiterator" = false := by decide
  unfold pyNext
  refine wpAny_bind (wpAny_attempt (wpAny_callSpecial?_slot (name := Str.ofString "__next__") hit.typeIs F.slot_dict_keyiterator_next
    (wpAny_call_entry F.slot_dict_keyiterator_next hit.typeIs F.entry_dict_keyiterator_next ?_ (F.args_dict_keyiterator_next_1 _))))
  refine wpAny_bind (wpAny_pure (wpAny_bind (wpAny_bind ?_)))
  first | refine wpAny_bind (wpAny_typeNameOfWhole_keyiter hit.typeIs (wpAny_pure ?_)) | refine wpAny_bind (wpAny_typeNameOf_keyiter hit.typeIs (wpAny_pure ?_))
  refine wpAny_bind (wpAny_fieldsOf ho hd ?_);simp only [hown, Bool.false_eq_true, if_false]
  show wpAny _ _ (if (Value.ref d == Value.none) = true then _ else _) _ _ s
  rw [if_neg (show ¬ ((Value.ref d == Value.none) = true) from Bool.false_ne_true)];refine wpAny_bind (wpAny_pure (wpAny_bind (wpAny_dictEntries hod hdd ?_)));rw [if_neg (by simp)];refine wpAny_bind (wpAny_pure (wpAny_bind (wpAny_dictEpoch hod hdd ?_)));rw [if_neg (by simp)];refine wpAny_pure ?_;simp only [show ¬ ((es.size : Int) < 0) from by omega, if_false, Zw, Array.getElem?_eq_none (Zm es.size)];refine wpAny_bind ?_
  first | refine wpAny_bind (wpAny_typeNameOfWhole_keyiter hit.typeIs (wpAny_pure ?_)) | refine wpAny_bind (wpAny_typeNameOf_keyiter hit.typeIs (wpAny_pure ?_))
  show wpAny _ _ (setField (.ref it) 0 .none >>= _) _ _ s
  refine wpAny_bind (wpAny_setField ho hd (by simp) ?_)
  show wpAny _ _ (newExc (.type "StopIteration") [] >>= _) _ _ _
  refine wpAny_bind ?_;simp only [newExc, newTuple];refine wpAny_bind (wpAny_newObj_type ?_ (by size_fits));refine wpAny_bind (m := firstArgMember _ _) (wpAny_of_eq (a := Value.none) (by first | rfl | (simp only [firstArgMember]; rfl)) ?_);refine wpAny_newObj_type ?_ (by size_fits);simp only [raiseNew];refine wpAny_bind (wpAny_handled ?_);rw [show A.in1.handled = none from hh];refine wpAny_bind (wpAny_pure (wpAny_throw ?_));refine wpAny_bind (wpAny_isInstance (T := "StopIteration") (b := true) ⟨_, Heap.get?_push_size _ rfl, rfl⟩ isSubtype_stop ?_);exact wpAny_pure (hQ _ (((Heap.SameBut.update ..).extBut.push _).push _))
theorem zdx (hh : A.handled = none) (I d : Addr) (hne : d ≠ I) (es : Array DictEntry) (ep : Nat) :
    Walks P w A I [I, d] [I] es.size (fun i v => ∃ e, es[i]? = some e /\ v = e.key) (fun i h => h.IsKeyIter I d i es.size ep /\ RawAt h d es ep) where
  sub := fun b hb => by simp at hb; simp [hb]
  frame := fun _ _ _ st hk => ⟨st.1.at fun o e => hk I (by simp) o e, st.2.mv fun o e => hk d (by simp) o e⟩
  item := fun i s Q E hi st hQ => bi st.1 st.2 hi fun h' hit' hs' =>
    hQ _ h' s.toks ⟨es[i], by simp [hi], rfl⟩ ⟨hit', st.2.mv fun o e => hs'.extBut d o hne e⟩ fun b o hb e => hs'.extBut b o (fun h => hb (by simp [h])) e
  done := fun s Q E st hQ => zb1 hh st.1 st.2 fun h' he' => hQ h' s.toks fun b o hb e => he' b o (fun h => hb (by simp [h])) e
  self := fun _ _ _ _ st hQ => wpAny_pyIter_keyiter st.1 hQ
theorem zhy {d : Addr} {es : Array DictEntry} {ep : Nat} (lo : (d == sysModules) = false) :
    PySem.W.KdlSrc P w "dict" d d es.size (fun i v => ∃ e, es[i]? = some e /\ v = e.key) (fun h => RawAt h d es ep) where
  type := fun _ hm => hm.ty
  there := fun _ ⟨_, ho, _⟩ => ⟨Heap.lt_size ho, Heap.lt_size ho⟩
  keep := fun _ _ hm hk => hm.mv fun o e => hk d (.inl rfl) o e
  notList := by decide
  notTuple := by decide
  hint := fun _ _ _ _ hm hq => PySem.W.kdl_hint_dict hm.ty hq
  iter := fun _ _ hh hm => ⟨_, _, (fun _ _ hq => al lo hm hq), zdx hh _ d (let ⟨_, ho, _⟩ := hm; Zs (Heap.lt_size ho)) es ep, ⟨⟨_, Heap.get?_push_size _ rfl, rfl, rfl⟩, hm.mv fun o e => Heap.get?_push_of_some _ e⟩⟩
end
def v7 (H : Hp) (kvs : List (List Key × V)) (as : List Addr) : Prop := Paired (fun (p : List Key × V) (a : Addr) => H a = some (.tup (p.1.map kV))) kvs as
def ze3 (xs : List V) (H : Hp) (Q : VK) : Prop := ∃ (a : Addr) (kvs : List (List Key × V)), xs = [.ref a] /\ H a = some (.dT kvs) /\ ∀ as, v7 H kvs as -> ∀ p, H p = none -> Q (.ref p) (upd H p (.lst (as.map V.ref)))
theorem zg3 {xs : List V} {H : Hp} {Q : VK} : ze3 xs H Q = ∃ (a : Addr) (kvs : List (List Key × V)), xs = [.ref a] /\ H a = some (.dT kvs) /\ ∀ as, v7 H kvs as -> ∀ p, H p = none -> Q (.ref p) (upd H p (.lst (as.map V.ref))) := rfl
section
variable {X : Cx}
theorem gb (hc : X.calm = true) : xt X (.type "list") ze3 := by
  intro pins s σ H xs us Q I r h;obtain ⟨a, kvs, rfl, ha, q⟩ := h;obtain ⟨u, rfl, ru⟩ := rc r;obtain rfl : u = Value.ref a := ru;obtain ⟨z, hd, ys, rel, dd⟩ := zdq I.hok ha;obtain ⟨o, es, ep, ho, hce, hdat, he, _⟩ := id dd
  have hl : es.size = kvs.length := by
    rw [size_of_entries he];exact (Paired.length rel).symm
  have hk : v7 H kvs (ys.map fun y => y.2.1) := by
    have go : ∀ {l : List (List Key × V)} {m : List (List Key × Addr × Value)}, KT H l m -> v7 H l (m.map fun y => y.2.1) := by
      intro l m t
      induction t with
      | nil => exact .nil
      | cons h _ ih => exact .cons h.2.1 ih
    exact go rel
  refine PySem.W.kdl_call (zhy hd) (I.ok.hd hc) ⟨o, ho, hce, hdat⟩ (by omega) fun h' tk acc' c' kp e hacc => ?_
  have hv : acc'.toList = ys.map fun y => Value.ref y.2.1 := by
    refine YQ fun i => ?_
    rcases Nat.lt_or_ge i es.size with hi | hi
    . have hs : acc'.size = es.size := hacc.1
      have h1 : acc'[i]? = some acc'[i] := by simp [hs, hi]
      obtain ⟨e, h2, h3⟩ := hacc.2 i _ h1;rw [entry_at he] at h2;rw [Ze, Array.getElem?_toList, h1, h3]
      cases hy : ys[i]? with
      | none => rw [hy] at h2; cases h2
      | some y => rw [hy] at h2; cases h2; rfl
    . have hs : acc'.size = es.size := hacc.1
      rw [ZX (by simp; omega), ZX (by rw [Za, <- size_of_entries he]; exact hi)]
  refine ⟨.ref s.heap.objs.size, _, I.laid (t' := tk) kp (Zm _) (show ObjOk X.prog X.w _ h' _ (.lst ((ys.map fun y => y.2.1).map V.ref)) from ⟨?_, ys.map fun y => Value.ref y.2.1, c', ?_, ?_⟩), rfl, q _ hk _ (I.hok.fresh (Zm _))⟩
  . rw [Za, Za, <- size_of_entries he]; omega
  . generalize ys = m
    induction m with
    | nil => exact .nil
    | cons y m ih => exact .cons rfl ih
  . rw [e, <- hv]
end
theorem zdp (n : Nat) : sliceRange ((n : Int) - 1) (-1) (-1) = (List.range n).map fun k => n - 1 - k := by
  unfold sliceRange;simp only [show ¬ ((-1 : Int) > 0) by decide, if_false, show - (-1 : Int) = 1 by decide, Int.ediv_one]
  have hc : (if ((n : Int) - 1 > -1) then ((n : Int) - 1 - -1 - -1 - 1) else 0).toNat = n := by
    split <;> omega
  rw [hc];refine Yv fun k _ => ?_
  omega
theorem zb2 {α β : Type} {f : α -> Option β} {g : α -> β} : ∀ {l : List α}, (∀ a ∈ l, f a = some (g a)) -> l.filterMap f = l.map g
  | [], _ => rfl
  | a :: l, h => by rw [Yu, h a (by simp), ZM, zb2 fun b hb => h b (by simp [hb])]
theorem zen (its : List Value) : slicePick its.toArray none none (some (-1)) = its.reverse.toArray := by
  have hb : sliceBounds none none (some (-1)) its.toArray.size = (((its.length : Nat) : Int) - 1, -1, -1) := by simp [sliceBounds]
  unfold slicePick;rw [hb, zdp, List.filterMap_map]
  congr 1
  rw [zb2 (g := fun k => its.getD (its.length - 1 - k) .none) fun k hk => ?_]
  . refine List.ext_getElem (by simp) fun i h1 h2 => ?_
    have hi : i < its.length := by simpa using h2
    have hj : its.length - 1 - i < its.length := by omega
    simp [Zb hj]
  . have hi : k < its.length := ZW.mp hk
    have hj : its.length - 1 - k < its.length := by omega
    simp [Zb hj]
section
variable {X : Cx} {e st : Expr} {te : TE} {ts : TO} {pos p2 : Pos}
def tDown (K : Fg) (te : TE) (ts : TO) : TE := fun σ H Q => te σ H fun x H1 => ts σ H1 fun k H2 => k = some (-1) /\ ∃ a xs, x = .ref a /\ SqL K H2 a xs /\ ∀ p, H2 p = none -> Q (.ref p) (upd H2 p (.lst xs.reverse))
theorem zfz {xs : List V} {vs : List Value} (r : Vals xs vs) : Vals xs.reverse vs.reverse := by
  induction r with
  | nil => exact .nil
  | @cons x v xs vs h _ ih =>
    rw [List.reverse_cons, List.reverse_cons];exact ih.append (.cons h .nil)
theorem zg1 (he : PE X e te) (hs : PO X (some st) ts) : PE X (.Subscript e (.Slice none none (some st) p2) pos) (tDown X.K te ts) := by
  intro pins s σ H Q I h;refine Subscript_ (thn (he pins s σ H _ I h) fun v s1 ⟨x, H1, I1, r1, q1⟩ => ?_);refine wpAny_Slice ?_;rw [evalPart_none];refine wpAny_pure (wpAny_pure ?_);refine thn (hs pins s1 σ H1 _ I1 q1) fun vk s3 ⟨k, H3, I3, pk, q3⟩ => ?_
  obtain ⟨rfl, a, xs, rfl, hx, q⟩ := q3;cases r1;have I4 : Inv X pins σ H3 { s3 with heap := s3.heap.push { cls := .type "slice", data := .fields #[.none, .none, vk] } } := I3.kept (t' := s3.toks) fun b ob q => Heap.get?_push_of_some _ q
  obtain ⟨its, r, ht, hz⟩ := I4.list hx;have hlen := r.length
  show wpAny (model X.prog X.w) X.A (subscriptTail e (.Slice none none (some st) p2) (.ref a) (.ref s3.heap.objs.size)) (EP X pins σ Q) X.xe { s3 with heap := s3.heap.push { cls := .type "slice", data := .fields #[.none, .none, vk] } }
  refine tail_any (ops := [.ref a, .ref s3.heap.objs.size]) ht.isList.typeIs slot_list_getitem.lookup ?_ (by with_unfolding_all rfl);refine wpAny_getItem_list_slice ht.isList (Heap.IsSliceOf.new ..) .none .none pk (by simp) ?_ (by rw [Zr] <;> omega);rw [zen];refine ⟨.ref _, _, I4.laid (t' := s3.toks) (o := .lst xs.reverse) (fun b ob q => Heap.get?_push_of_some _ q) (Zm _) ?_, rfl, q _ (I4.hok.fresh (Zm _))⟩;exact ⟨by rw [Yj]; exact hz, _, 0, zfz r, Heap.get?_push_size _ rfl⟩
theorem e_down {K : Fg} {σ : St} {H : Hp} {Q : VK} : tDown K te ts σ H Q = te σ H fun x H1 => ts σ H1 fun k H2 => k = some (-1) /\ ∃ a xs, x = .ref a /\ SqL K H2 a xs /\ ∀ p, H2 p = none -> Q (.ref p) (upd H2 p (.lst xs.reverse)) := rfl
end
end L2
namespace L2
open PySem PySem.Spec PyProof.Rows
def Itk (a : Addr) (o : Obj) (u : HO) (as : List Addr) : It :=
  ⟨fun i H => H a = some (.frz o u) /\ i < as.length, fun i H x H' => H' = H /\ ∃ c, as[i]? = some c /\ x = .ref c, fun i H => H a = some (.frz o u) /\ i = as.length⟩
theorem zdi {P : Program} {w : World} {K : Fg} {tg : Expr} {a it : Addr} {o : Obj} {u : HO} {as : List Addr} {es : Array DictEntry} {ep : Nat} (hx : o.ExactDict) (hd : o.data = .dict es ep) (hn : es.size = as.length)
    (hk : ∀ (i : Nat) (e : DictEntry), es[i]? = some e -> ∃ c, as[i]? = some c /\ e.key = .ref c) : Turn P w K tg (Itk a o u as) [it] it (fun i h => h.IsKeyIter it a i es.size ep) where
  mem := by simp
  obj := fun i h st b hb => by
    have e : b = it := by simpa using hb
    subst e;obtain ⟨o, e, c, d⟩ := st;exact ⟨o, e, fun v z => by rw [d] at z; cases z⟩
  keep := fun i h h' st k => st.at fun o e => k it (by simp) o e
  item := by
    intro X hP hw hK hc i pins s σ H E I hf st hg;subst hP hw hK;obtain ⟨h1, h2⟩ := hg;obtain ⟨ho, _⟩ := (show ObjOk X.prog X.w H s.heap a (.frz o u) from I.hok a _ h1);obtain ⟨f0, f1, f2, f3, f4, f5⟩ := hf it (by simp);refine bi st ⟨o, ho, hx, hd⟩ (by rw [hn]; exact h2) fun h' st' sb => ?_
    obtain ⟨c, hc1, hc2⟩ := hk i es[i] (by simp);have I1 : Inv X pins σ H { s with heap := h' } := I.turned (t' := s.toks) (fun b o hb e => (sb.2 b hb).trans e) f0 f1 f3 f4 f5;obtain ⟨o', e, c', d⟩ := id st';exact ⟨_, rfl, js (s := { s with heap := h' }) e c' d (by decide) ⟨.ref c, H, I1, hc2, ⟨rfl, c, hc1, rfl⟩, st', fun b hb => (hf b hb).1⟩⟩
  done := by
    intro X hP hw hK hc i pins s σ H E I hf st hg;subst hP hw hK;obtain ⟨h1, rfl⟩ := hg;obtain ⟨ho, _⟩ := (show ObjOk X.prog X.w H s.heap a (.frz o u) from I.hok a _ h1);obtain ⟨f0, f1, f2, f3, f4, f5⟩ := hf it (by simp);rw [<- hn] at st;exact zb1 (I.ok.hd hc) st ⟨o, ho, hx, hd⟩ fun h' eb => ⟨rfl, I.turned (t' := s.toks) (fun b o hb e => eb b o hb e) f0 f1 f3 f4 f5⟩
  self := fun _ _ _ _ _ st h => wpAny_pyIter_keyiter st h
section
variable {X : Cx} {tg : Expr}
def iDicT (tl : TE) : TI := fun σ H R => tl σ H fun x H1 => ∃ a kvs, x = .ref a /\ H1 a = some (.dT kvs) /\ ∀ o as, v7 H1 kvs as -> R (Itk a o (.dT kvs) as) (upd H1 a (.frz o (.dT kvs)))
theorem zhk {tl : TE} {σ : St} {H : Hp} {R : It -> Hp -> Prop} : iDicT tl σ H R = tl σ H fun x H1 => ∃ a kvs, x = .ref a /\ H1 a = some (.dT kvs) /\ ∀ o as, v7 H1 kvs as -> R (Itk a o (.dT kvs) as) (upd H1 a (.frz o (.dT kvs))) := rfl
theorem zag {l : Expr} {tl : TE} (hl : PE X l tl) : PI X tg l (iDicT tl) := by
  intro pins s σ H R I h;refine thn (hl pins s σ H _ I h) fun v s1 ⟨x, H1, I1, r1, q1⟩ => ?_
  obtain ⟨a, kvs, e, ha, q⟩ := q1;subst e;obtain rfl : v = Value.ref a := r1;obtain ⟨z, hd, xs, rel, o, es, ep, ho, hce, hdat, he, nd⟩ := (show ObjOk X.prog X.w H1 s1.heap a (.dT kvs) from I1.hok a _ ha);have hsz : es.size = (xs.map fun y => y.2.1).length := by rw [size_of_entries he, Za]
  have hk : v7 H1 kvs (xs.map fun y => y.2.1) := by
    have go : ∀ {l : List (List Key × V)} {m : List (List Key × Addr × Value)}, KT H1 l m -> v7 H1 l (m.map fun y => y.2.1) := by
      intro l m t
      induction t with
      | nil => exact .nil
      | cons h _ ih => exact .cons h.2.1 ih
    exact go rel
  have hkey : ∀ (i : Nat) (e : DictEntry), es[i]? = some e -> ∃ c, (xs.map fun y => y.2.1)[i]? = some c /\ e.key = .ref c := fun i e h2 => by
    rw [entry_at he] at h2;rw [Ze]
    cases hy : xs[i]? with
    | none => rw [hy] at h2; cases h2
    | some y => rw [hy] at h2; cases h2; exact ⟨_, rfl, rfl⟩
  have I2 : Inv X pins σ (upd H1 a (.frz o (.dT kvs))) s1 := by
    refine e7 (h' := s1.heap) (t' := s1.toks) I1 (by rw [ha]; exact True.intro) ⟨rfl, fun _ _ => rfl⟩ ⟨o, ho⟩ ⟨ho, z, hd, xs, ?_, o, es, ep, ho, hce, hdat, he, nd⟩;refine Paired.mapP rel fun p q y => ⟨y.1, ?_, y.2.2⟩
    rw [zr (fun e => by have := y.2.1; rw [e, ha] at this; cases this)];exact y.2.1
  refine al hd ⟨o, ho, hce, hdat⟩ ?_;refine ⟨s1.heap.objs.size, [s1.heap.objs.size], _, _, _, rfl, I2.kept (t' := s1.toks) fun b o e => Heap.get?_push_of_some _ e, zdi hce hdat hsz hkey, ⟨_, Heap.get?_push_size _ rfl, rfl, rfl⟩, fun b hb => ?_, q o _ hk⟩;have e : b = s1.heap.objs.size := by simpa using hb
  subst e;exact I2.fpOk (Zm _) (I2.hok.fresh (Zm _))
theorem d5 {a : Addr} {ob : Obj} {u : HO} {as : List Addr} {g : TG} {tb : TS} {D : Ends} {σ : St} {H : Hp} (Pv : Nat -> St -> Hp -> Prop) (h0 : Pv 0 σ H) (hl : ∀ i σ H, i <= as.length -> Pv i σ H -> H a = some (.frz ob u))
    (hs : ∀ i c σ H, as[i]? = some c -> Pv i σ H -> g (.ref c) σ H fun σ2 H2 => tb { D with nx := Pv (i + 1), ct := Pv (i + 1), bk := D.nx } σ2 H2) (hd : ∀ σ H, Pv as.length σ H -> D.nx σ H) : ForW (Itk a ob u as) g tb D σ H := by
  refine ⟨fun i m σ H => m = as.length - i /\ i <= as.length /\ Pv i σ H, ⟨as.length, by simp, ZE _, h0⟩, ?_⟩
  rintro i m σ H ⟨rfl, hi, p⟩
  have q := hl i σ H hi p
  by_cases hlt : i < as.length
  . refine .inr ⟨⟨q, hlt⟩, Pv (i + 1), fun σ' H' p' => ⟨as.length - (i + 1), by omega, rfl, hlt, p'⟩, fun x H' y => ?_⟩
    obtain ⟨rfl, c, hc, rfl⟩ := y;exact hs i c σ _ hc p
  . have e : i = as.length := by omega
    subst e;exact .inl ⟨⟨q, rfl⟩, hd σ H p⟩
end
theorem za7 {X : Cx} {P : Program} {w : World} {K : Fg} {mg : Str -> Option Value} {base : Heap} {N : List Str} {qual : Str} {scope : Scope} {f : Addr} {cd : Value} {A : Around} {outer : List Env} {s0 : Shared} {H0 : Hp} {E : XK}
    (hX : X = cxOf (CX1 P w) P w K mg base N qual scope f cd A outer s0 H0 E) : PassesOwn (model X.prog X.w) X.A X.env X.xe := by
  subst hX;exact PassesOwn.leaving
end L2
namespace L2
open PySem PySem.Spec PyProof.Rows
section
variable {prog : Program} {w : World} {K : Type} [DecidableEq K] {knd : KeyKind prog w K}
end
section
variable {X : Cx} {pins : List (Addr × Obj)} {σ : St} {H : Hp} {s : Shared}
end
end L2
namespace L2
open PySem PySem.Spec PyProof.Rows
section
variable {prog : Program} {w : World} {K : Type} [DecidableEq K] {knd : KeyKind prog w K} {A : Around} {E : Value -> Shared -> Prop} {s : Shared}
end
section
variable {X : Cx}
end
end L2
namespace Mine
open PySem PySem.Spec PyProof.Rows L2
theorem yy {α β : Type} {g : α -> β} {xs : List α} {i : Nat} {x : β} (h : (xs.map g)[i]? = some x) : ∃ y, xs[i]? = some y /\ g y = x := by
  rw [Ze] at h
  cases e : xs[i]? with
  | none => rw [e] at h; cases h
  | some y => rw [e] at h; cases h; exact ⟨y, rfl, rfl⟩
def zc := And.intro @zhk (And.intro @zg3 (And.intro @e_down (And.intro @e_var (And.intro @e_C (And.intro @e_op (And.intro @e_un (And.intro @e_rI (And.intro @e_rI0 (And.intro @e_rU (And.intro @e_rEq (And.intro @e_rNe (And.intro @e_ixL (And.intro @e_ixT (And.intro @e_set (And.intro @e_cat (And.intro @e_test (And.intro @e_B (And.intro @e_and (And.intro @e_or (And.intro @e_not (And.intro @e_andV (And.intro @e_orV (And.intro @e_notV (And.intro @e_ifE (And.intro @e_all (And.intro @e_next (And.intro @e_seq (And.intro @e_brk (And.intro @e_cnt (And.intro @e_drop (And.intro @e_ret (And.intro @e_retN (And.intro @e_ifS (And.intro @e_asg (And.intro @zcj (And.intro @e_setC (And.intro @e_augS (And.intro @e_ipI (And.intro @e_nil (And.intro @e_cons (And.intro @e_tup (And.intro @e_lst (And.intro @e_call (And.intro @e_CB (And.intro @e_BM (And.intro @e_app (And.intro @e_rng1 (And.intro @e_rng2 (And.intro @e_iL (And.intro @e_for (And.intro @e_comp (And.intro @cxK (And.intro @e_zip (And.intro @e_gTup (And.intro @e_gNil (And.intro @zg7 (And.intro @e_rep (And.intro @e_gSub (And.intro @e_slL (And.intro @e_tSl (And.intro @zgo (And.intro @e_part (And.intro @zhi (And.intro @e_BM0 (And.intro @zha (And.intro @e_in (And.intro @e_enum (And.intro @e_minK (And.intro @zg5 (And.intro @zhd (And.intro @zhf (And.intro @e_try0 (And.intro @suK (And.intro @noxK (And.intro @tryK (And.intro @e_eqD (And.intro @e_inD (And.intro @e_iStr (And.intro @e_mulS (And.intro @e_ixS (And.intro @e_join (And.intro @e_iT (And.intro @e_iSeq (And.intro @e_tupL (And.intro @e_minL (And.intro @e_maxL (And.intro @zf8 (And.intro @e_leS (And.intro @e_vI0 (And.intro @e_vI (And.intro @e_ints (And.intro @e_isB (And.intro @e_catH (And.intro @zge (And.intro @e_slH (And.intro @e_slT (And.intro @zfx (And.intro @zfw (And.intro @e_inK (And.intro @e_setD (And.intro @zgq (And.intro @e_dget (@e_BMT)))))))))))))))))))))))))))))))))))))))))))))))))))))))))))))))))))))))))))))))))))))))))))))))))))))))
def zd := And.intro @ZL.{0} (And.intro @Ym.{0} (And.intro @Nat.zero_add (And.intro @YJ.{0} (And.intro @List.replicate_zero.{0} (And.intro @List.drop_succ_cons.{0} (And.intro @List.drop_zero.{0} (And.intro @Int.zero_add (And.intro @List.getElem?_cons_zero.{0} (And.intro @List.getElem?_cons_succ.{0} (And.intro @List.set_cons_zero.{0} (And.intro @List.set_cons_succ.{0} (And.intro @Option.some.injEq.{0} (And.intro @V.int.injEq (And.intro @V.ref.injEq (And.intro @V.bl.injEq (And.intro @V.ty.injEq (And.intro @V.str.injEq (And.intro @List.cons.injEq.{0} (And.intro @Yw.{0} (And.intro @ZN.{0} (And.intro @ZR.{0} (And.intro @exists_eq.{1} (And.intro @exists_eq'.{1} (And.intro @exists_eq_left.{1} (And.intro @exists_eq_left'.{1} (And.intro @exists_and_left.{1} (And.intro @exists_and_right.{1} (And.intro @and_assoc (And.intro @true_and (@and_true))))))))))))))))))))))))))))))
def top (i : Nat) : Stmt := PySem.Challenge.pw_trueword_k40_asked_of_the_hands.main.body.getD i (.Pass ⟨0, 0, 0, 0⟩)
abbrev pz : Stmt := top 13
theorem zat : zp ["thing"] ["thing"] (zk pz) := ⟨rfl, rfl, rfl, by decide +kernel, rfl, by decide +kernel, by decide +kernel⟩
abbrev u1 : Stmt := top 14
theorem d8 : zp ["thing"] ["thing"] (zk u1) := ⟨rfl, rfl, rfl, by decide +kernel, rfl, by decide +kernel, by decide +kernel⟩
abbrev uf : Stmt := top 15
theorem fh : zp ["thing", "width"] ["thing", "width"] (zk uf) := ⟨rfl, rfl, rfl, by decide +kernel, rfl, by decide +kernel, by decide +kernel⟩
abbrev i0 : Stmt := top 16
theorem zhu : zp ["grid", "s", "t"] ["grid", "s", "t"] (zk i0) := ⟨rfl, rfl, rfl, by decide +kernel, rfl, by decide +kernel, by decide +kernel⟩
abbrev gk : Stmt := top 17
theorem zhm : zp ["grid", "pays", "t", "s"] ["grid", "pays", "t", "s"] (zk gk) := ⟨rfl, rfl, rfl, by decide +kernel, rfl, by decide +kernel, by decide +kernel⟩
abbrev uv : Stmt := top 18
theorem sc_first_gain : zp ["grid", "pays", "t", "s", "more"] ["grid", "pays"] (zk uv) := ⟨rfl, rfl, rfl, by decide +kernel, rfl, by decide +kernel, by decide +kernel⟩
abbrev mh : Stmt := top 24
theorem zc7 : zp ["thing"] ["thing"] (zk mh) := ⟨rfl, rfl, rfl, by decide +kernel, rfl, by decide +kernel, by decide +kernel⟩
abbrev ra : Stmt := top 25
theorem bo : zp ["thing", "most"] ["thing", "most"] (zk ra) := ⟨rfl, rfl, rfl, by decide +kernel, rfl, by decide +kernel, by decide +kernel⟩
abbrev u0 : Stmt := top 26
theorem cb : zp ["thing", "height", "width"] ["thing", "height", "width"] (zk u0) := ⟨rfl, rfl, rfl, by decide +kernel, rfl, by decide +kernel, by decide +kernel⟩
abbrev me : Stmt := top 27
theorem zde : zp ["thing", "width"] ["thing", "width"] (zk me) := ⟨rfl, rfl, rfl, by decide +kernel, rfl, by decide +kernel, by decide +kernel⟩
abbrev ny : Stmt := top 28
theorem zc6 : zp ["hand"] ["hand"] (zk ny) := ⟨rfl, rfl, rfl, by decide +kernel, rfl, by decide +kernel, by decide +kernel⟩
abbrev pj : Stmt := top 29
theorem zbb : zp ["hands"] ["hands"] (zk pj) := ⟨rfl, rfl, rfl, by decide +kernel, rfl, by decide +kernel, by decide +kernel⟩
abbrev wc : Stmt := top 30
theorem na : zp ["hand"] ["hand"] (zk wc) := ⟨rfl, rfl, rfl, by decide +kernel, rfl, by decide +kernel, by decide +kernel⟩
abbrev xx : Stmt := top 31
theorem qq : zp ["hand"] ["hand"] (zk xx) := ⟨rfl, rfl, rfl, by decide +kernel, rfl, by decide +kernel, by decide +kernel⟩
abbrev vf : Stmt := top 32
theorem sc_count_of_rows : zp ["hands", "count", "hand"] ["hands"] (zk vf) := ⟨rfl, rfl, rfl, by decide +kernel, rfl, by decide +kernel, by decide +kernel⟩
abbrev ug : Stmt := top 33
theorem fm : zp ["outcomes", "hands"] ["outcomes", "hands"] (zk ug) := ⟨rfl, rfl, rfl, by decide +kernel, rfl, by decide +kernel, by decide +kernel⟩
abbrev sy : Stmt := top 34
theorem sc_kept_hand : zp ["hand", "worths"] ["hand"] (zk sy) := ⟨rfl, rfl, rfl, by decide +kernel, rfl, by decide +kernel, by decide +kernel⟩
abbrev pp : Stmt := top 35
theorem zav : zp ["outcomes", "hands"] ["outcomes", "hands"] (zk pp) := ⟨rfl, rfl, rfl, by decide +kernel, rfl, by decide +kernel, by decide +kernel⟩
abbrev ui : Stmt := top 36
theorem ef : zp ["house"] ["house"] (zk ui) := ⟨rfl, rfl, rfl, by decide +kernel, rfl, by decide +kernel, by decide +kernel⟩
abbrev qr : Stmt := top 37
theorem za5 : zp ["house"] ["house"] (zk qr) := ⟨rfl, rfl, rfl, by decide +kernel, rfl, by decide +kernel, by decide +kernel⟩
abbrev sw : Stmt := top 38
theorem sc_with_each : zp ["rows", "words", "longer", "row"] ["rows", "words"] (zk sw) := ⟨rfl, rfl, rfl, by decide +kernel, rfl, by decide +kernel, by decide +kernel⟩
abbrev rj : Stmt := top 39
theorem sc_rows_over : zp ["hands", "rows", "hand"] ["hands"] (zk rj) := ⟨rfl, rfl, rfl, by decide +kernel, rfl, by decide +kernel, by decide +kernel⟩
abbrev nt : Stmt := top 40
theorem zcv : zp ["things", "k"] ["things", "k"] (zk nt) := ⟨rfl, rfl, rfl, by decide +kernel, rfl, by decide +kernel, by decide +kernel⟩
abbrev sv : Stmt := top 41
theorem zap : zp ["house", "k"] ["house", "k"] (zk sv) := ⟨rfl, rfl, rfl, by decide +kernel, rfl, by decide +kernel, by decide +kernel⟩
abbrev qv : Stmt := top 42
theorem za1 : zp ["others", "k", "word"] ["others", "k", "word"] (zk qv) := ⟨rfl, rfl, rfl, by decide +kernel, rfl, by decide +kernel, by decide +kernel⟩
abbrev pw : Stmt := top 44
theorem zba : zp ["walk"] ["walk"] (zk pw) := ⟨rfl, rfl, rfl, by decide +kernel, rfl, by decide +kernel, by decide +kernel⟩
abbrev pi : Stmt := top 45
theorem za6 : zp ["walk"] ["walk"] (zk pi) := ⟨rfl, rfl, rfl, by decide +kernel, rfl, by decide +kernel, by decide +kernel⟩
abbrev x6 : Stmt := top 46
theorem km : zp ["grid", "s"] ["grid", "s"] (zk x6) := ⟨rfl, rfl, rfl, by decide +kernel, rfl, by decide +kernel, by decide +kernel⟩
abbrev uy : Stmt := top 47
theorem sc_least_to : zp ["grid", "walks", "t", "longer"] ["grid", "walks", "t"] (zk uy) := ⟨rfl, rfl, rfl, by decide +kernel, rfl, by decide +kernel, by decide +kernel⟩
abbrev vj : Stmt := top 48
theorem k6 : zp ["grid", "walks"] ["grid", "walks"] (zk vj) := ⟨rfl, rfl, rfl, by decide +kernel, rfl, by decide +kernel, by decide +kernel⟩
abbrev vx : Stmt := top 49
theorem i9 : zp ["grid", "totals", "t"] ["grid", "totals", "t"] (zk vx) := ⟨rfl, rfl, rfl, by decide +kernel, rfl, by decide +kernel, by decide +kernel⟩
abbrev ux : Stmt := top 50
theorem sc_has_honest : zp ["grid", "totals", "size"] ["grid"] (zk ux) := ⟨rfl, rfl, rfl, by decide +kernel, rfl, by decide +kernel, by decide +kernel⟩
abbrev x0 : Stmt := top 51
theorem sc_closed_below_zero : zp ["rows", "s", "walks"] ["rows"] (zk x0) := ⟨rfl, rfl, rfl, by decide +kernel, rfl, by decide +kernel, by decide +kernel⟩
abbrev gf : Stmt := top 52
theorem sc_ring : zp ["grid", "rows", "size", "found"] ["grid"] (zk gf) := ⟨rfl, rfl, rfl, by decide +kernel, rfl, by decide +kernel, by decide +kernel⟩
abbrev ue : Stmt := top 54
theorem el : zp ["grid"] ["grid"] (zk ue) := ⟨rfl, rfl, rfl, by decide +kernel, rfl, by decide +kernel, by decide +kernel⟩
abbrev l6 : Stmt := top 55
theorem ze5 : zp ["walk", "longer"] ["walk", "longer"] (zk l6) := ⟨rfl, rfl, rfl, by decide +kernel, rfl, by decide +kernel, by decide +kernel⟩
abbrev uj : Stmt := top 56
theorem sc_least_roads : zp ["grid", "walks", "size"] ["grid", "walks"] (zk uj) := ⟨rfl, rfl, rfl, by decide +kernel, rfl, by decide +kernel, by decide +kernel⟩
abbrev qt : Stmt := top 58
theorem sc_greatest : zp ["grid", "walks"] ["grid"] (zk qt) := ⟨rfl, rfl, rfl, by decide +kernel, rfl, by decide +kernel, by decide +kernel⟩
abbrev vz : Stmt := top 60
theorem sc_dealt_places : zp ["house", "table", "k", "others", "rows"] ["house", "table", "k", "others"] (zk vz) := ⟨rfl, rfl, rfl, by decide +kernel, rfl, by decide +kernel, by decide +kernel⟩
abbrev rh : Stmt := top 61
theorem zad : zp ["worths", "places"] ["worths", "places"] (zk rh) := ⟨rfl, rfl, rfl, by decide +kernel, rfl, by decide +kernel, by decide +kernel⟩
abbrev nq : Stmt := top 62
theorem sc_grid_of : zp ["house", "table", "k", "others", "places"] ["house", "table", "k", "others"] (zk nq) := ⟨rfl, rfl, rfl, by decide +kernel, rfl, by decide +kernel, by decide +kernel⟩
abbrev qy : Stmt := top 64
theorem sc_grids_of : zp ["house", "table", "grids", "k"] ["house", "table"] (zk qy) := ⟨rfl, rfl, rfl, by decide +kernel, rfl, by decide +kernel, by decide +kernel⟩
abbrev jp : Stmt := top 65
theorem sc_paper : zp ["k", "others", "grid", "told"] ["k", "others", "grid"] (zk jp) := ⟨rfl, rfl, rfl, by decide +kernel, rfl, by decide +kernel, by decide +kernel⟩
abbrev nk : Stmt := top 66
theorem sc_verdict : zp ["house", "table", "papers", "k", "others", "grid", "found"] ["house", "table"] (zk nk) := ⟨rfl, rfl, rfl, by decide +kernel, rfl, by decide +kernel, by decide +kernel⟩
abbrev qz : Stmt := top 67
theorem sc_asked_of : zp ["house", "table", "k", "row", "pays"] ["house", "table", "k", "row"] (zk qz) := ⟨rfl, rfl, rfl, by decide +kernel, rfl, by decide +kernel, by decide +kernel⟩
abbrev jz : Stmt := top 68
theorem sc_asked : zp ["house", "table", "row", "k", "others", "grid"] ["house", "table", "row"] (zk jz) := ⟨rfl, rfl, rfl, by decide +kernel, rfl, by decide +kernel, by decide +kernel⟩
abbrev uh : Stmt := top 70
theorem e6 : zp ["script", "k"] ["script", "k"] (zk uh) := ⟨rfl, rfl, rfl, by decide +kernel, rfl, by decide +kernel, by decide +kernel⟩
abbrev yd : Stmt := top 71
theorem sc_law_pool : zp ["cell", "many", "letters", "number", "filler", "begin", "step", "size", "place", "front", "back"] ["cell", "many"] (zk yd) := ⟨rfl, rfl, rfl, by decide +kernel, rfl, by decide +kernel, by decide +kernel⟩
abbrev re : Stmt := top 72
theorem sc_law_drawn : zp ["script", "k", "many", "cell", "number"] ["script", "k"] (zk re) := ⟨rfl, rfl, rfl, by decide +kernel, rfl, by decide +kernel, by decide +kernel⟩
abbrev so : Stmt := top 73
theorem bt : zp ["cell"] ["cell"] (zk so) := ⟨rfl, rfl, rfl, by decide +kernel, rfl, by decide +kernel, by decide +kernel⟩
abbrev rf : Stmt := top 74
theorem sc_law_parts : zp ["script", "tops", "first", "shape", "outcomes", "hands", "k", "j", "size", "words", "worths", "word"] ["script", "tops"] (zk rf) := ⟨rfl, rfl, rfl, by decide +kernel, rfl, by decide +kernel, by decide +kernel⟩
abbrev qw : Stmt := top 75
theorem sc_law_rows : zp ["hands", "rows", "hand", "grown", "row"] ["hands"] (zk qw) := ⟨rfl, rfl, rfl, by decide +kernel, rfl, by decide +kernel, by decide +kernel⟩
abbrev su : Stmt := top 76
theorem sc_law_score : zp ["hands", "row", "weights", "place", "score", "j", "t"] ["hands", "row", "weights", "place"] (zk su) := ⟨rfl, rfl, rfl, by decide +kernel, rfl, by decide +kernel, by decide +kernel⟩
abbrev u8 : Stmt := top 77
theorem sc_law_places : zp ["script", "outcomes", "hands", "mode", "weights", "gifts", "places", "row", "place", "sums", "i", "cell"] ["script", "outcomes", "hands"] (zk u8) := ⟨rfl, rfl, rfl, by decide +kernel, rfl, by decide +kernel, by decide +kernel⟩
abbrev sr : Stmt := top 78
theorem sc_law_table : zp ["outcomes", "places", "table", "row"] ["outcomes", "places"] (zk sr) := ⟨rfl, rfl, rfl, by decide +kernel, rfl, by decide +kernel, by decide +kernel⟩
abbrev p0 : Stmt := top 79
theorem sc_law_grid : zp ["hands", "places", "k", "others", "got", "grid", "worths"] ["hands", "places", "k", "others"] (zk p0) := ⟨rfl, rfl, rfl, by decide +kernel, rfl, by decide +kernel, by decide +kernel⟩
abbrev qx : Stmt := top 80
theorem za3 : zp ["grid", "s", "t"] ["grid", "s", "t"] (zk qx) := ⟨rfl, rfl, rfl, by decide +kernel, rfl, by decide +kernel, by decide +kernel⟩
abbrev sm : Stmt := top 81
theorem zaj : zp ["found"] ["found"] (zk sm) := ⟨rfl, rfl, rfl, by decide +kernel, rfl, by decide +kernel, by decide +kernel⟩
abbrev u5 : Stmt := top 82
theorem sc_law_honest : zp ["grid", "pays", "t", "s"] ["grid", "pays"] (zk u5) := ⟨rfl, rfl, rfl, by decide +kernel, rfl, by decide +kernel, by decide +kernel⟩
abbrev ud : Stmt := top 83
theorem sc_law_refused : zp ["house", "table", "row", "kinds", "e"] ["house", "table", "row"] (zk ud) := ⟨rfl, rfl, rfl, by decide +kernel, rfl, by decide +kernel, by decide +kernel⟩
abbrev nv : Stmt := top 84
theorem sc_law_due : zp ["hands", "places", "row", "due", "k", "grid", "pays"] ["hands", "places", "row"] (zk nv) := ⟨rfl, rfl, rfl, by decide +kernel, rfl, by decide +kernel, by decide +kernel⟩
abbrev q8 : Stmt := top 85
theorem sc_law_told : zp ["house", "table", "hands", "places", "row", "found"] ["house", "table", "hands", "places", "row"] (zk q8) := ⟨rfl, rfl, rfl, by decide +kernel, rfl, by decide +kernel, by decide +kernel⟩
abbrev jq : Stmt := top 86
theorem sc_law : zp ["script", "outcomes", "hands", "house", "places", "table", "row"] ["script"] (zk jq) := ⟨rfl, rfl, rfl, by decide +kernel, rfl, by decide +kernel, by decide +kernel⟩
structure Bt (mg : Str -> Option Value) : Prop where
  «ValueError» : mg "ValueError" = none
  «abs» : mg "abs" = none
  «all» : mg "all" = none
  «bool» : mg "bool" = none
  «enumerate» : mg "enumerate" = none
  «int» : mg "int" = none
  «isinstance» : mg "isinstance" = none
  «len» : mg "len" = none
  «list» : mg "list" = none
  «max» : mg "max" = none
  «min» : mg "min" = none
  «range» : mg "range" = none
  «set» : mg "set" = none
  «str» : mg "str" = none
  «tuple» : mg "tuple" = none
  «zip» : mg "zip" = none
  k_MOST_WORDS : ∃ t, mg "MOST_WORDS" = some (Value.int 8 t)
  k_MOST_LETTERS : ∃ t, mg "MOST_LETTERS" = some (Value.int 8 t)
  k_MOST_OUTCOMES : ∃ t, mg "MOST_OUTCOMES" = some (Value.int 8 t)
  k_MOST_HANDS : ∃ t, mg "MOST_HANDS" = some (Value.int 4 t)
  k_MOST_ROWS : ∃ t, mg "MOST_ROWS" = some (Value.int 256 t)
structure Ad where
  NoHouse : Addr
  NoPays : Addr
  TrueError : Addr
  NoWord : Addr
  NoWeight : Addr
  NoStand : Addr
  NoShare : Addr
  NoRule : Addr
  NoRow : Addr
  NoMenu : Addr
structure Ct (K : Fg) (mg : Str -> Option Value) (a : Ad) : Prop where
  m_NoHouse : mg "NoHouse" = some (.ref a.NoHouse)
  q_NoHouse : ErrQ K a.NoHouse
  m_NoPays : mg "NoPays" = some (.ref a.NoPays)
  q_NoPays : ErrQ K a.NoPays
  v_NoPays : PySem.W.kitOne K (.ref a.NoPays) (.type "ValueError") = some true
  m_TrueError : mg "TrueError" = some (.ref a.TrueError)
  q_TrueError : ErrQ K a.TrueError
  m_NoWord : mg "NoWord" = some (.ref a.NoWord)
  m_NoWeight : mg "NoWeight" = some (.ref a.NoWeight)
  m_NoStand : mg "NoStand" = some (.ref a.NoStand)
  m_NoShare : mg "NoShare" = some (.ref a.NoShare)
  m_NoRule : mg "NoRule" = some (.ref a.NoRule)
  m_NoRow : mg "NoRow" = some (.ref a.NoRow)
  m_NoMenu : mg "NoMenu" = some (.ref a.NoMenu)
  k_NoPays_NoHouse : PySem.W.kitOne K (.ref a.NoPays) (.ref a.NoHouse) = some false
  s_NoPays_NoPays : PySem.W.mroIn K a.NoPays (.ref a.NoPays) = some true
  k_NoPays_NoPays : PySem.W.kitOne K (.ref a.NoPays) (.ref a.NoPays) = some true
  s_NoPays_TrueError : PySem.W.mroIn K a.NoPays (.ref a.TrueError) = some true
  k_NoPays_TrueError : PySem.W.kitOne K (.ref a.NoPays) (.ref a.TrueError) = some true
  k_NoPays_NoWord : PySem.W.kitOne K (.ref a.NoPays) (.ref a.NoWord) = some false
  k_NoPays_NoWeight : PySem.W.kitOne K (.ref a.NoPays) (.ref a.NoWeight) = some false
  k_NoPays_NoStand : PySem.W.kitOne K (.ref a.NoPays) (.ref a.NoStand) = some false
  k_NoPays_NoShare : PySem.W.kitOne K (.ref a.NoPays) (.ref a.NoShare) = some false
  k_NoPays_NoRule : PySem.W.kitOne K (.ref a.NoPays) (.ref a.NoRule) = some false
  k_NoPays_NoRow : PySem.W.kitOne K (.ref a.NoPays) (.ref a.NoRow) = some false
  k_NoPays_NoMenu : PySem.W.kitOne K (.ref a.NoPays) (.ref a.NoMenu) = some false
structure NewGrid (H H' : Hp) (b : Addr) (bs : List Addr) (rows : List (List Int)) (k n : Nat) : Prop where
  same : Same H H'
  nb : H b = none
  nr : ∀ r ∈ bs, H r = none
  nd : bs.Nodup
  ne : b ∉ bs
  at' : H' b = some (.lst (bs.map V.ref))
  lb : bs.length = k
  lr : rows.length = k
  row : ∀ (i : Nat) (r : Addr) (ns : List Int), bs[i]? = some r -> rows[i]? = some ns -> H' r = some (.lst (ns.map V.int)) /\ ns.length = n
theorem Same.upd {H H' : Hp} (s : Same H H') {a : Addr} {o : HO} (n : H a = none) : Same H (upd H' a o) := fun b u e => by
  rw [zr (y6 e n)]; exact s b u e
theorem NewGrid.nil {H H' : Hp} {b : Addr} {n : Nat} (s : Same H H') (nb : H' b = none) : NewGrid H (upd H' b (.lst [])) b [] [] 0 n :=
  ⟨Same.upd s (s.free nb), s.free nb, (fun _ z => nomatch z), YC, (fun z => nomatch z), ze, rfl, rfl, (fun i r ns e => by simp at e)⟩
theorem NewGrid.laid {H H' : Hp} {b c : Addr} {bs : List Addr} {rows : List (List Int)} {k n : Nat} {o : HO} (g : NewGrid H H' b bs rows k n) (nc : H' c = none) : NewGrid H (L2.upd H' c o) b bs rows k n :=
  ⟨Same.upd g.same (g.same.free nc), g.nb, g.nr, g.nd, g.ne, by rw [zr (y6 g.at' nc)]; exact g.at', g.lb, g.lr, fun i r ns e1 e2 => by
    obtain ⟨q, l⟩ := g.row i r ns e1 e2
    exact ⟨by rw [zr (y6 q nc)]; exact q, l⟩⟩
theorem NewGrid.snoc {H H' : Hp} {b c : Addr} {bs : List Addr} {rows : List (List Int)} {k n : Nat} {ns : List Int} (g : NewGrid H H' b bs rows k n) (hn : H c = none) (hc : H' c = some (.lst (ns.map V.int))) (hl : ns.length = n) (hb : c ∉ bs) (hcb : c ≠ b) :
    NewGrid H (L2.upd H' b (.lst (bs.map V.ref ++ [.ref c]))) b (bs ++ [c]) (rows ++ [ns]) (k + 1) n := by
  refine ⟨Same.upd g.same g.nb, g.nb, fun r hr => ?_, ?_, ?_, ?_, by rw [Zo, g.lb]; rfl, by rw [Zo, g.lr]; rfl, fun i r ms e1 e2 => ?_⟩
  . rcases ZH.mp hr with z | z
    . exact g.nr r z
    . rw [ZC.mp z]; exact hn
  . refine Yp.mpr ⟨g.nd, by simp, fun x hx y hy => ?_⟩
    rw [ZC.mp hy]
    rintro rfl
    exact hb hx
  . intro z
    rcases ZH.mp z with z | z
    . exact g.ne z
    . exact hcb (ZC.mp z).symm
  . rw [ze, Zn]; rfl
  . have nb' : ∀ r, r ∈ bs ++ [c] -> r ≠ b := fun r hr => by
      rcases ZH.mp hr with z | z
      . rintro rfl; exact g.ne z
      . rw [ZC.mp z]; exact hcb
    have hr : r ∈ bs ++ [c] := Zi e1;rw [zr (nb' r hr)]
    by_cases hi : i < bs.length
    . rw [Zg hi] at e1
      rw [Zg (by rw [g.lr, <- g.lb]; exact hi)] at e2;exact g.row i r ms e1 e2
    . have hi' : bs.length <= i := ZD.mp hi
      rw [Zf hi'] at e1;rw [Zf (by rw [g.lr, <- g.lb]; exact hi')] at e2
      have e0 : i - bs.length = 0 := by
        have := (Zc.mp e1).1;simp at this; omega
      rw [e0] at e1;have e0' : i - rows.length = 0 := by rw [g.lr, <- g.lb]; exact e0
      rw [e0'] at e2;simp at e1 e2;subst e1 e2;exact ⟨hc, hl⟩
theorem kg {K : Fg} {H : Hp} {g : Addr} {as : List Addr} {rows : List (List Int)} (G : GridL K H g as rows) {t : Nat} {ns : List Int} (h : rows[t]? = some ns) :
    ∃ r, atI (as.map V.ref) (t : Int) = some (V.ref r) /\ SqL K H r (ns.map V.int) := by
  have ht : t < as.length := by rw [G.2.1]; exact (Zc.mp h).1
  have e : as[t]? = some as[t] := by simp [ht]
  exact ⟨as[t], z0 (by rw [Ze, e]; rfl), G.2.2 t _ ns e h⟩
theorem wa {ns : List Int} {t : Nat} {x : Int} (h : ns[t]? = some x) : atI (ns.map V.int) (t : Int) = some (V.int x) := z0 (by rw [Ze, h]; rfl)
theorem kit_ii : kit0 "int" "int" = some true := by decide +kernel
theorem kit_ib : kit0 "int" "bool" = some false := by decide +kernel
theorem zeq : kit0 "list" "list" = some true := by decide +kernel
theorem GridL.mono {K : Fg} {H H' : Hp} {g : Addr} {as : List Addr} {rows : List (List Int)} (S : Same H H') (G : GridL K H g as rows) : GridL K H' g as rows := ⟨S.seq G.1, G.2.1, fun i r ns e1 e2 => S.seq (G.2.2 i r ns e1 e2)⟩
theorem sg {bs : List Addr} {i : Nat} {x : V} (hx : (bs.map V.ref)[i]? = some x) : ∃ r, bs[i]? = some r /\ x = V.ref r := by
  rw [Ze] at hx
  cases e : bs[i]? with
  | none => rw [e] at hx; cases hx
  | some r => rw [e] at hx; cases hx; exact ⟨r, rfl, rfl⟩
theorem ip {ms : List Int} {i : Nat} {x : V} (hx : (ms.map V.int)[i]? = some x) : ∃ r, ms[i]? = some r /\ x = V.int r := by
  rw [Ze] at hx
  cases e : ms[i]? with
  | none => rw [e] at hx; cases hx
  | some r => rw [e] at hx; cases hx; exact ⟨r, rfl, rfl⟩
def zx (ns : List Int) (k : Nat) : Int := ns.getD k 0
def numA (c : Int) : Int := (c % 2147483647 * 48271 + 11) % 2147483647
def letA (i : Int) : Nat := 97 + (i % 26).toNat
def mf (c : Int) : Str := chr1 (letA (numA c))
def stepsA : List Int := [1, 3, 5, 7, 9, 11, 15, 17, 19, 21, 23, 25]
def tq (c : Int) : Int := stepsA.getD (numA c / 2028 % 12).toNat 0
def vq (c : Int) : Int := 1 + numA c / 24336 % 8
def tu (c : Int) : Int := numA c / 194688 % vq c
def wq (c : Int) (k : Nat) : Str := if numA c / 26 % 3 = 1 then xf (mf c) (k + 1) else xf (mf c) (tu c).toNat ++ chr1 (letA (numA c / 78 % 26 + tq c * k)) ++ xf (mf c) (vq c - 1 - tu c).toNat
def xi (c : Int) (many : Nat) : List Str := (List.range many).map (wq c)
def kn (K : Fg) : Sp := fun vs H Q _ => ∃ (a : Addr) (ns : List Int) (k : Nat), vs = [.ref a, .int k] /\ SqL K H a (ns.map V.int) /\ Q (.int (zx ns k)) H
def zd5 : Sp := fun vs H Q _ => ∃ (c : Int) (many : Nat), vs = [.int c, .int many] /\ many <= 9 /\ ∀ H' l, Same H H' -> H l = none -> H' l = some (.lst ((xi c many).map V.str)) -> Q (.ref l) H'
theorem xu (c : Int) (n : Nat) : (xi c n).length = n := by rw [xi, Za, Yh]
theorem gi (c : Int) (n : Nat) : xi c (n + 1) = xi c n ++ [wq c n] := by rw [xi, Yx, Zn]; rfl
theorem xm (z : Str) (n : Nat) : (xf z n).length = z.length * n := by
  unfold xf Str.length;simp [List.length_flatten, Nat.mul_comm]
theorem v8 (y z : Str) : (y ++ z).length = y.length + z.length := by
  show (y.cps ++ z.cps).size = _
  simp [Str.length]
theorem za0 (c : Int) : 0 <= numA c := ZZ _ (by decide)
theorem zdy {i : Int} (h0 : 0 <= i) (h1 : i < 26) : atI (Str.ofString "abcdefghijklmnopqrstuvwxyz").cps.toList i = some (97 + i.toNat) := by
  have h : ∀ j : Fin 26, (Str.ofString "abcdefghijklmnopqrstuvwxyz").cps.toList[j.val]? = some (97 + j.val) := by decide +kernel
  have := z0 (xs := (Str.ofString "abcdefghijklmnopqrstuvwxyz").cps.toList) (j := i.toNat) (v := 97 + i.toNat) (h ⟨i.toNat, by omega⟩)
  rwa [Yb h0] at this
section
variable {P : Program} {w : World} {K : Fg} {mg : Str -> Option Value} {base : Heap}
theorem y0 (B : Bt mg) (D : zf K mg "_law_cell_at" uh ["script", "k"]) : FnAt P w K mg base "_law_cell_at" 1 ["script", "k"] (kn K) := by
  refine FnAt.of D e6 (fun vs H Q E h => ?_) (fun f cdv A outer s H vs Q E hr h => ?_)
  . obtain ⟨a, ns, k, rfl, _⟩ := h
    rfl
  . obtain ⟨a, ns, k, rfl, hS, q⟩ := h
    refine ⟨_, (@zi _ _ _ _ _ (@yz _ _ _ _ _ _ _ _ (@yv _ _ _ _ _ _ _ _ gz (pv 1) (zn zq rfl B.len ye (za (pv 0) (@zb _))) (yq _)) (@zh _ _ _ (@zm _ _ _ _ (@zw _ _ _ _ _ _ _ z9 (pv 0) (pv 1) (fun _ _ => rfl)))) (@yf _)) (@zh _ _ _ (@zm _ _ _ _ (@zg _ _ _ _)))), ?_⟩;rw [show zt ["script", "k"] [V.ref a, V.int k] = [some (V.ref a), some (V.int k)] from rfl];simp only [zc, zd, ↓reduceIte];refine ⟨ns.map V.int, .inl hS, ?_⟩;rw [Za];unfold zx at q;refine ite2 (fun h => ?_) (fun h => ?_)
    . have h' : (k : Int) < ns.length := of_decide_eq_true h
      have hlt : k < ns.length := by omega
      have e : ns[k]? = some ns[k] := by simp [hlt]
      have e2 := z0 (xs := ns.map V.int) (j := k) (v := V.int ns[k]) (by rw [Ze, e]; rfl);rw [Zk, e] at q;exact ⟨ns.map V.int, hS, _, e2, q⟩
    . have h' : ¬ (k : Int) < ns.length := fun z => h (decide_eq_true z)
      rw [Zk, ZX (by omega)] at q;exact q
theorem u9 (B : Bt mg) (D : zf K mg "_law_pool" yd ["cell", "many"]) : FnAt P w K mg base "_law_pool" 1 ["cell", "many"] zd5 := by
  refine FnAt.of D sc_law_pool (fun vs H Q E h => ?_) (fun f cdv A outer s H vs Q E hr h => ?_)
  . obtain ⟨c, many, rfl, _⟩ := h
    rfl
  . obtain ⟨c, many, rfl, hm, q⟩ := h
    have b10 : PSs (cxOf CX0 P w K mg base ["cell", "many", "letters", "number", "filler", "begin", "step", "size", "place", "front", "back"] "_law_pool" (zk yd) f cdv A outer s H E).nox ((yx yd).drop 10) _ := (@zho _ _ _ _ _ (@zm _ _ _ _ (yk ["k"] ["cell", "many", "letters", "number", "filler", "begin", "step", "size", "place", "front", "back"] rfl (yi rfl B.range (za (pv 1) (@zb _))) (fun _ => (zo (i := 0) (show (["k", "cell", "many", "letters", "number", "filler", "begin", "step", "size", "place", "front", "back"] : List Str).Nodup by decide +kernel) rfl (Or.inl rfl))) (fun _ => (@yc _)) (fun _ => (@zl _ _ _ _ _ _ _ _ gp (@zl _ _ _ _ _ _ _ _ gp (pv 10) (@zw _ _ _ _ _ _ _ zep (pv 3) (@zl _ _ _ _ _ _ _ _ yl (@zl _ _ _ _ _ _ _ _ yp (pv 6) (@zl _ _ _ _ _ _ _ _ u3 (pv 7) (pv 0))) (@zg _ _ _ _)) (fun _ _ => rfl))) (pv 11))) rfl (by decide +kernel) rfl rfl)) rfl rfl);have b9 : PSs (cxOf CX0 P w K mg base ["cell", "many", "letters", "number", "filler", "begin", "step", "size", "place", "front", "back"] "_law_pool" (zk yd) f cdv A outer s H E).nox ((yx yd).drop 9) _ := (@ua _ _ _ _ _ _ (zy (i := 10) sc_law_pool.nd rfl (Or.inr rfl) (@zl _ _ _ _ _ _ _ _ f8 (pv 4) (@zl _ _ _ _ _ _ _ _ wy (@zl _ _ _ _ _ _ _ _ wy (pv 7) (@zg _ _ _ _)) (pv 8)))) rfl @b10);have b8 : PSs (cxOf CX0 P w K mg base ["cell", "many", "letters", "number", "filler", "begin", "step", "size", "place", "front", "back"] "_law_pool" (zk yd) f cdv A outer s H E).nox ((yx yd).drop 8) _ := (@ua _ _ _ _ _ _ (zy (i := 9) sc_law_pool.nd rfl (Or.inr rfl) (@zl _ _ _ _ _ _ _ _ f8 (pv 4) (pv 8))) rfl @b9);have b7 : PSs (cxOf CX0 P w K mg base ["cell", "many", "letters", "number", "filler", "begin", "step", "size", "place", "front", "back"] "_law_pool" (zk yd) f cdv A outer s H E).nox ((yx yd).drop 7) _ := (@ua _ _ _ _ _ _ (zy (i := 8) sc_law_pool.nd rfl (Or.inl rfl) (@zl _ _ _ _ _ _ _ _ yl (@zl _ _ _ _ _ _ _ _ xa (pv 3) (@zg _ _ _ _)) (pv 7))) rfl @b8);have b6 : PSs (cxOf CX0 P w K mg base ["cell", "many", "letters", "number", "filler", "begin", "step", "size", "place", "front", "back"] "_law_pool" (zk yd) f cdv A outer s H E).nox ((yx yd).drop 6) _ := (@ua _ _ _ _ _ _ (zy (i := 7) sc_law_pool.nd rfl (Or.inl rfl) (@zl _ _ _ _ _ _ _ _ yp (@zg _ _ _ _) (@zl _ _ _ _ _ _ _ _ yl (@zl _ _ _ _ _ _ _ _ xa (pv 3) (@zg _ _ _ _)) (@zg _ _ _ _)))) rfl @b7);have b5 : PSs (cxOf CX0 P w K mg base ["cell", "many", "letters", "number", "filler", "begin", "step", "size", "place", "front", "back"] "_law_pool" (zk yd) f cdv A outer s H E).nox ((yx yd).drop 5) _ := (@ua _ _ _ _ _ _ (zy (i := 6) sc_law_pool.nd rfl (Or.inr rfl) (@zw _ _ _ _ _ _ _ z9 (@y8 _ _ _ _ (zbx (ns := [1, 3, 5, 7, 9, 11, 15, 17, 19, 21, 23, 25]) rfl)) (@zl _ _ _ _ _ _ _ _ yl (@zl _ _ _ _ _ _ _ _ xa (pv 3) (@zg _ _ _ _)) (@zg _ _ _ _)) (fun _ _ => rfl))) rfl @b6);have b4 : PSs (cxOf CX0 P w K mg base ["cell", "many", "letters", "number", "filler", "begin", "step", "size", "place", "front", "back"] "_law_pool" (zk yd) f cdv A outer s H E).nox ((yx yd).drop 4) _ := (@ua _ _ _ _ _ _ (zy (i := 5) sc_law_pool.nd rfl (Or.inr rfl) (@zl _ _ _ _ _ _ _ _ yl (@zl _ _ _ _ _ _ _ _ xa (pv 3) (@zg _ _ _ _)) (@zg _ _ _ _))) rfl @b5);have b3 : PSs (cxOf CX0 P w K mg base ["cell", "many", "letters", "number", "filler", "begin", "step", "size", "place", "front", "back"] "_law_pool" (zk yd) f cdv A outer s H E).nox ((yx yd).drop 3) _ := (@ua _ _ _ _ _ _ (@yz _ _ _ _ _ _ _ _ (@yv _ _ _ _ _ _ _ _ pq (@zl _ _ _ _ _ _ _ _ yl (@zl _ _ _ _ _ _ _ _ xa (pv 3) (@zg _ _ _ _)) (@zg _ _ _ _)) (@zg _ _ _ _) (yq _)) (@zh _ _ _ (@zm _ _ _ _ (yk ["k"] ["cell", "many", "letters", "number", "filler", "begin", "step", "size", "place", "front", "back"] rfl (yi rfl B.range (za (pv 1) (@zb _))) (fun _ => (zo (i := 0) (show (["k", "cell", "many", "letters", "number", "filler", "begin", "step", "size", "place", "front", "back"] : List Str).Nodup by decide +kernel) rfl (Or.inl rfl))) (fun _ => (@yc _)) (fun _ => (@zl _ _ _ _ _ _ _ _ f8 (pv 5) (@zl _ _ _ _ _ _ _ _ yp (pv 0) (@zg _ _ _ _)))) rfl (by decide +kernel) rfl rfl))) (@yf _)) rfl @b4);have b2 : PSs (cxOf CX0 P w K mg base ["cell", "many", "letters", "number", "filler", "begin", "step", "size", "place", "front", "back"] "_law_pool" (zk yd) f cdv A outer s H E).nox ((yx yd).drop 2) _ := (@ua _ _ _ _ _ _ (zy (i := 4) sc_law_pool.nd rfl (Or.inr rfl) (@zw _ _ _ _ _ _ _ zep (pv 2) (@zl _ _ _ _ _ _ _ _ yl (pv 3) (@zg _ _ _ _)) (fun _ _ => rfl))) rfl @b3);have b1 : PSs (cxOf CX0 P w K mg base ["cell", "many", "letters", "number", "filler", "begin", "step", "size", "place", "front", "back"] "_law_pool" (zk yd) f cdv A outer s H E).nox ((yx yd).drop 1) _ := (@ua _ _ _ _ _ _ (zy (i := 3) sc_law_pool.nd rfl (Or.inl rfl) (@zl _ _ _ _ _ _ _ _ yl (@zl _ _ _ _ _ _ _ _ yp (@zl _ _ _ _ _ _ _ _ u3 (@zl _ _ _ _ _ _ _ _ yl (pv 0) (@zg _ _ _ _)) (@zg _ _ _ _)) (@zg _ _ _ _)) (@zg _ _ _ _))) rfl @b2);have b0 : PSs (cxOf CX0 P w K mg base ["cell", "many", "letters", "number", "filler", "begin", "step", "size", "place", "front", "back"] "_law_pool" (zk yd) f cdv A outer s H E).nox ((yx yd).drop 0) _ := (@ua _ _ _ _ _ _ (zy (i := 2) sc_law_pool.nd rfl (Or.inr rfl) (@qc _ _ _ _)) rfl @b1);have b_ := @zg4 _ _ _ @b0;refine ⟨_, @b_, ?_⟩;rw [show zt ["cell", "many", "letters", "number", "filler", "begin", "step", "size", "place", "front", "back"] [V.int c, V.int many] = [some (V.int c), some (V.int many), none, none, none, none, none, none, none, none, none] from rfl];simp only [zc, zd, ↓reduceIte];simp only [show (c % 2147483647 * 48271 + 11) % 2147483647 = numA c from rfl, show numA c % 26 = numA c % 26 from rfl];have hn := za0 c
    have hs1 : 1 <= vq c /\ vq c <= 8 := by
      have h1 := ZZ (numA c / 24336) (show (8 : Int) ≠ 0 by decide);have h2 := ZU (numA c / 24336) (show (0 : Int) < 8 by decide);unfold vq;omega
    have hp1 : 0 <= tu c /\ tu c < vq c := ⟨ZZ _ (by omega), ZU _ (by omega)⟩;have hl1 := zdy (ZZ (numA c) (show (26 : Int) ≠ 0 by decide)) (ZU (numA c) (show (0 : Int) < 26 by decide));refine ⟨by decide, ?_, by decide, by decide, by decide, _, hl1, ?_⟩
    . exact .inr ⟨by decide, by decide⟩
    refine ⟨⟨by decide, by decide⟩, by decide, rfl, ite2 (fun h => ?_) (fun h => ?_)⟩
    . have h := of_decide_eq_true h
      refine ⟨by omega, by omega, fun d => ?_⟩;rw [Zw];refine y7 (fun i ys H' => H' = H /\ ys = (xi c i).map V.str) ⟨rfl, rfl⟩ ?_ ?_ ?_
      . rintro i ys H' hi ⟨rfl, rfl⟩
        rw [Za, xu];exact Zd (show i <= 9 by omega) (by decide)
      . rintro i ys H' hi ⟨rfl, rfl⟩
        simp only [zc, zd, ↓reduceIte];refine ⟨by omega, by omega, ?_, ?_⟩
        . show 1 * _ <= _
          rw [Nat.one_mul];exact Zd (show ((i : Int) + 1).toNat <= 10 by omega) (by decide)
        . rw [gi, wq, if_pos h, Zn, show ((i : Int) + 1).toNat = i + 1 by omega]
          rfl
      . rintro ys H' ⟨rfl, rfl⟩ l hl
        exact q _ l (Same.upd (Same.refl _) hl) hl ze
    . have h : ¬ _ := fun z => h (decide_eq_true z)
      refine ⟨⟨by decide, by decide⟩, by decide, by decide, fun p hp => ⟨⟨by decide, by decide⟩, by decide, _, .of ze, ?_⟩⟩
      have hst : ∃ st : Int, atI [V.int 1, V.int 3, V.int 5, V.int 7, V.int 9, V.int 11, V.int 15, V.int 17, V.int 19, V.int 21, V.int 23, V.int 25] (numA c / 2028 % 12) = some (V.int st) /\ st = tq c /\ 0 <= st /\ st < 26 := by
        have h1 := ZZ (numA c / 2028) (show (12 : Int) ≠ 0 by decide);have h2 := ZU (numA c / 2028) (show (0 : Int) < 12 by decide);unfold tq;generalize numA c / 2028 % 12 = m at h1 h2 ⊢;have h3 : ∀ j : Fin 12, [V.int 1, V.int 3, V.int 5, V.int 7, V.int 9, V.int 11, V.int 15, V.int 17, V.int 19, V.int 21, V.int 23, V.int 25][j.val]? = some (V.int (stepsA.getD j.val 0)) /\ 0 <= stepsA.getD j.val 0 /\ stepsA.getD j.val 0 < 26 := by decide
        have h4 := h3 ⟨m.toNat, by omega⟩;have h5 := z0 h4.1;rw [Yb h1] at h5;exact ⟨_, h5, rfl, h4.2⟩
      obtain ⟨st, e1, e2, e3, e4⟩ := hst;subst e2;refine ⟨_, e1, ⟨by decide, by decide⟩, by decide, ⟨by decide, by decide⟩, ?_⟩;simp only [show 1 + numA c / 24336 % 8 = vq c from rfl, show numA c / 194688 % vq c = tu c from rfl, show (⟨#[97 + (numA c % 26).toNat]⟩ : Str) = mf c from rfl];have hf : (mf c).length = 1 := rfl;rw [hf, Nat.one_mul, Nat.one_mul];refine ⟨by omega, by omega, by omega, ?_, by omega, by omega, ?_, by omega, by omega, fun d => ?_⟩
      . exact Zd (show (tu c).toNat <= 8 by omega) (by decide)
      . exact Zd (show (vq c - 1 - tu c).toNat <= 8 by omega) (by decide)
      rw [Zw];have S1 : Same H (upd H p (.lst [V.int 1, V.int 3, V.int 5, V.int 7, V.int 9, V.int 11, V.int 15, V.int 17, V.int 19, V.int 21, V.int 23, V.int 25])) := Same.upd (Same.refl _) hp;generalize upd H p (.lst [V.int 1, V.int 3, V.int 5, V.int 7, V.int 9, V.int 11, V.int 15, V.int 17, V.int 19, V.int 21, V.int 23, V.int 25]) = H1 at *;refine y7 (fun i ys H' => H' = H1 /\ ys = (xi c i).map V.str) ⟨rfl, rfl⟩ ?_ ?_ ?_
      . rintro i ys H' hi ⟨rfl, rfl⟩
        rw [Za, xu];exact Zd (show i <= 9 by omega) (by decide)
      . rintro i ys H' hi ⟨rfl, rfl⟩
        simp only [zc, zd, ↓reduceIte];have hb := zdy (ZZ (numA c / 78 % 26 + tq c * i) (show (26 : Int) ≠ 0 by decide)) (ZU (numA c / 78 % 26 + tq c * i) (show (0 : Int) < 26 by decide));refine ⟨.inl ⟨by omega, by omega⟩, by decide, by decide, _, hb, ?_, ?_, ?_⟩
        . rw [xm, hf]
          exact Zd (show _ <= 20 by show 1 * _ + 1 <= 20; omega) (by decide)
        . rw [v8, xm, xm, hf]
          exact Zd (show _ <= 30 by show 1 * _ + 1 + 1 * _ <= 30; omega) (by decide)
        . rw [gi, wq, if_neg h, Zn]
          rfl
      . rintro ys H' ⟨rfl, rfl⟩ l hl
        exact q _ l (Same.upd S1 (S1.free hl)) (S1.free hl) ze
end
def x5 (ns : List Int) : Nat := max 1 (min ns.length 63 - 5)
def uw (ns : List Int) (k : Nat) : Int :=
  if k < x5 ns then zx ns (5 + k % x5 ns)
  else (zx ns (5 + k % x5 ns) % 2147483647 * 48271 + (k / x5 ns : Nat) * 7919 + k) % 2147483647 * ((zx ns (5 + k % x5 ns) % 2147483647 * 48271 + (k / x5 ns : Nat) * 7919 + k) % 2147483647) % 2147483629
def ow (c : Int) : Int :=
  if c % 5 = 2 then c / 5 % 10 ^ 18 - 5 * 10 ^ 17 else if c % 5 = 3 then c / 5 % (2 * 10 ^ 60 - 1) - 10 ^ 60 + 1 else if c % 5 = 4 then 0 else c / 5 % 19 - 9
def fj (K : Fg) : Sp := fun vs H Q _ => ∃ (a : Addr) (ns : List Int) (k : Nat), vs = [.ref a, .int k] /\ SqL K H a (ns.map V.int) /\ Q (.int (uw ns k)) H
def zcp : Sp := fun vs H Q _ => ∃ c : Int, vs = [.int c] /\ Q (.int (ow c)) H
section
variable {P : Program} {w : World} {K : Fg} {mg : Str -> Option Value} {base : Heap}
theorem mz (D : zf K mg "_law_worth" so ["cell"]) : FnAt P w K mg base "_law_worth" 1 ["cell"] zcp := by
  refine FnAt.of D bt (fun vs H Q E h => ?_) (fun f cdv A outer s H vs Q E hr h => ?_)
  . obtain ⟨c, rfl, _⟩ := h
    rfl
  . obtain ⟨c, rfl, q⟩ := h
    refine ⟨_, (@zi _ _ _ _ _ (@yz _ _ _ _ _ _ _ _ (@yv _ _ _ _ _ _ _ _ pq (@zl _ _ _ _ _ _ _ _ yl (pv 0) (@zg _ _ _ _)) (@zg _ _ _ _) (yq _)) (@zh _ _ _ (@zm _ _ _ _ (@zl _ _ _ _ _ _ _ _ wy (@zl _ _ _ _ _ _ _ _ yl (@zl _ _ _ _ _ _ _ _ xa (pv 0) (@zg _ _ _ _)) (@zl _ _ _ _ _ _ _ _ m4 (@zg _ _ _ _) (@zg _ _ _ _))) (@zl _ _ _ _ _ _ _ _ u3 (@zg _ _ _ _) (@zl _ _ _ _ _ _ _ _ m4 (@zg _ _ _ _) (@zg _ _ _ _)))))) (@yf _)) (@zi _ _ _ _ _ (@yz _ _ _ _ _ _ _ _ (@yv _ _ _ _ _ _ _ _ pq (@zl _ _ _ _ _ _ _ _ yl (pv 0) (@zg _ _ _ _)) (@zg _ _ _ _) (yq _)) (@zh _ _ _ (@zm _ _ _ _ (@zl _ _ _ _ _ _ _ _ yp (@zl _ _ _ _ _ _ _ _ wy (@zl _ _ _ _ _ _ _ _ yl (@zl _ _ _ _ _ _ _ _ xa (pv 0) (@zg _ _ _ _)) (@zl _ _ _ _ _ _ _ _ wy (@zl _ _ _ _ _ _ _ _ u3 (@zg _ _ _ _) (@zl _ _ _ _ _ _ _ _ m4 (@zg _ _ _ _) (@zg _ _ _ _))) (@zg _ _ _ _))) (@zl _ _ _ _ _ _ _ _ m4 (@zg _ _ _ _) (@zg _ _ _ _))) (@zg _ _ _ _)))) (@yf _)) (@zi _ _ _ _ _ (@yz _ _ _ _ _ _ _ _ (@yv _ _ _ _ _ _ _ _ pq (@zl _ _ _ _ _ _ _ _ yl (pv 0) (@zg _ _ _ _)) (@zg _ _ _ _) (yq _)) (@zh _ _ _ (@zm _ _ _ _ (@zg _ _ _ _))) (@yf _)) (@zh _ _ _ (@zm _ _ _ _ (@zl _ _ _ _ _ _ _ _ wy (@zl _ _ _ _ _ _ _ _ yl (@zl _ _ _ _ _ _ _ _ xa (pv 0) (@zg _ _ _ _)) (@zg _ _ _ _)) (@zg _ _ _ _))))))), ?_⟩;rw [show zt ["cell"] [V.int c] = [some (V.int c)] from rfl];simp only [zc, zd, ↓reduceIte];unfold ow at q;refine ⟨by decide, rfl, ite2 (fun h => ?_) (fun h => ?_)⟩
    . rw [if_pos (of_decide_eq_true h)] at q
      exact ⟨⟨by decide, by decide⟩, ⟨by decide, by decide, by decide⟩, by decide, ⟨by decide, by decide, by decide⟩, .inl ⟨by decide, by decide⟩, q⟩
    . rw [if_neg (fun z => h (decide_eq_true z))] at q
      refine ⟨by decide, rfl, ite2 (fun h => ?_) (fun h => ?_)⟩
      . rw [if_pos (of_decide_eq_true h)] at q
        exact ⟨⟨by decide, by decide⟩, ⟨by decide, by decide, by decide⟩, .inl ⟨by decide, by decide⟩, by decide, ⟨by decide, by decide, by decide⟩, q⟩
      . rw [if_neg (fun z => h (decide_eq_true z))] at q
        refine ⟨by decide, rfl, ite2 (fun h => ?_) (fun h => ?_)⟩
        . rw [if_pos (of_decide_eq_true h)] at q
          exact q
        . rw [if_neg (fun z => h (decide_eq_true z))] at q
          exact ⟨⟨by decide, by decide⟩, by decide, q⟩
theorem wg (B : Bt mg) (y0 : FnAt P w K mg base "_law_cell_at" 1 ["script", "k"] (kn K)) (D : zf K mg "_law_drawn" re ["script", "k"]) : FnAt P w K mg base "_law_drawn" 2 ["script", "k"] (fj K) := by
  refine FnAt.of D sc_law_drawn (fun vs H Q E h => ?_) (fun f cdv A outer s H vs Q E hr h => ?_)
  . obtain ⟨a, ns, k, rfl, _⟩ := h
    rfl
  . obtain ⟨a, ns, k, rfl, hS, q⟩ := h
    refine ⟨_, (@zi _ _ _ _ _ (zy (i := 2) sc_law_drawn.nd rfl (Or.inl rfl) (zn (ze4 rfl) rfl B.max zfk (za (@zg _ _ _ _) (za (@zl _ _ _ _ _ _ _ _ wy (zn (ze6 rfl) rfl B.min bv (za (zn zq rfl B.len ye (za (pv 0) (@zb _))) (za (@zg _ _ _ _) (@zb _)))) (@zg _ _ _ _)) (@zb _))))) (@zi _ _ _ _ _ (zy (i := 3) sc_law_drawn.nd rfl (Or.inl rfl) (zj y0 (hr.mono (by decide)) rfl (za (pv 0) (za (@zl _ _ _ _ _ _ _ _ yp (@zg _ _ _ _) (@zl _ _ _ _ _ _ _ _ yl (pv 1) (pv 2))) (@zb _))))) (@zi _ _ _ _ _ (@yz _ _ _ _ _ _ _ _ (@yv _ _ _ _ _ _ _ _ gz (pv 1) (pv 2) (yq _)) (@zh _ _ _ (@zm _ _ _ _ (pv 3))) (@yf _)) (@zi _ _ _ _ _ (zy (i := 4) sc_law_drawn.nd rfl (Or.inl rfl) (@zl _ _ _ _ _ _ _ _ yl (@zl _ _ _ _ _ _ _ _ yp (@zl _ _ _ _ _ _ _ _ yp (@zl _ _ _ _ _ _ _ _ u3 (@zl _ _ _ _ _ _ _ _ yl (pv 3) (@zg _ _ _ _)) (@zg _ _ _ _)) (@zl _ _ _ _ _ _ _ _ u3 (@zl _ _ _ _ _ _ _ _ xa (pv 1) (pv 2)) (@zg _ _ _ _))) (pv 1)) (@zg _ _ _ _))) (@zh _ _ _ (@zm _ _ _ _ (@zl _ _ _ _ _ _ _ _ yl (@zl _ _ _ _ _ _ _ _ u3 (pv 4) (pv 4)) (@zg _ _ _ _)))))))), ?_⟩;rw [show zt ["script", "k", "many", "cell", "number"] [V.ref a, V.int k] = [some (V.ref a), some (V.int k), none, none, none] from rfl];simp only [zc, zd, ↓reduceIte];refine ⟨_, Or.inl hS, ?_⟩;rw [Za]
    have hm : (if (if (63 : Int) < (ns.length : Int) then (63 : Int) else (ns.length : Int)) - 5 > 1 then (if (63 : Int) < (ns.length : Int) then (63 : Int) else (ns.length : Int)) - 5 else 1) = (x5 ns : Int) := by
      unfold x5
      by_cases h1 : (63 : Int) < (ns.length : Int)
      . rw [if_pos h1, if_pos (by omega)]
        omega
      . rw [if_neg h1]
        by_cases h2 : (ns.length : Int) - 5 > 1
        . rw [if_pos h2]; omega
        . rw [if_neg h2]; omega
    rw [hm];have hm1 : 1 <= x5 ns := by unfold x5; omega
    have hm2 : x5 ns <= 58 := by unfold x5; omega
    refine ⟨by omega, a, ns, 5 + k % x5 ns, ?_, hS, ?_⟩
    . rw [show (5 : Int) + (k : Int) % (x5 ns : Int) = ((5 + k % x5 ns : Nat) : Int) by rw [Int.natCast_add, Int.natCast_emod]; rfl]
    unfold uw at q;refine ite2 (fun h => ?_) (fun h => ?_)
    . rw [if_pos (by have := of_decide_eq_true h; omega)] at q
      exact q
    . rw [if_neg (by have : ¬ (k : Int) < (x5 ns : Int) := fun z => h (decide_eq_true z)
                     omega)] at q
      refine ⟨_, rfl, by decide, .inr ⟨by decide, by decide⟩, ⟨by omega, by omega⟩, .inr ⟨by decide, by decide⟩, by decide, .inl ?_, by decide, ?_⟩
      . generalize zx ns (5 + k % x5 ns) % 2147483647 * 48271 + (k : Int) / (x5 ns : Int) * 7919 + (k : Int) = m
        have h1 := ZZ m (show (2147483647 : Int) ≠ 0 by decide);have h2 := ZU m (show (0 : Int) < 2147483647 by decide);omega
      . rw [Int.natCast_ediv] at q
        exact q
end
structure HX where
  t : Addr
  w : Addr
  g : Addr
  gs : List Addr
def HX.adr (x : HX) : List Addr := x.t :: x.w :: x.g :: x.gs
structure HD where
  name : Str
  words : List Str
  worths : List (List Int)
structure HandAt (H : Hp) (x : HX) (d : HD) : Prop where
  tup : H x.t = some (.tup [.str d.name, .ref x.w, .ref x.g])
  words : H x.w = some (.lst (d.words.map V.str))
  grid : H x.g = some (.lst (x.gs.map V.ref))
  len : x.gs.length = d.worths.length
  row : ∀ (i : Nat) (r : Addr) (ns : List Int), x.gs[i]? = some r -> d.worths[i]? = some ns -> H r = some (.lst (ns.map V.int))
theorem HandAt.mono {H H' : Hp} {x : HX} {d : HD} (S : Same H H') (h : HandAt H x d) : HandAt H' x d :=
  ⟨S _ _ h.tup, S _ _ h.words, S _ _ h.grid, h.len, fun i r ns e1 e2 => S _ _ (h.row i r ns e1 e2)⟩
def adrs (xs : List HX) : List Addr := (xs.map HX.adr).flatten
structure NewHands (H H' : Hp) (b : Addr) (xs : List HX) (ds : List HD) : Prop where
  same : Same H H'
  nb : H b = none
  at' : H' b = some (.lst (xs.map fun x => V.ref x.t))
  len : xs.length = ds.length
  hand : ∀ (i : Nat) (x : HX) (d : HD), xs[i]? = some x -> ds[i]? = some d -> HandAt H' x d
  new : ∀ y ∈ adrs xs, H y = none
  old : ∀ y ∈ adrs xs, H' y ≠ none
  nd : (adrs xs).Nodup
  ne : b ∉ adrs xs
theorem NewHands.nil {H H' : Hp} {b : Addr} (s : Same H H') (nb : H' b = none) : NewHands H (upd H' b (.lst [])) b [] [] :=
  ⟨Same.upd s (s.free nb), s.free nb, ze, rfl, (fun i x d e => by simp at e), (fun y z => nomatch z), (fun y z => nomatch z), YC, (fun z => nomatch z)⟩
theorem NewHands.more {H H' H2 : Hp} {b : Addr} {xs : List HX} {ds : List HD} (g : NewHands H H' b xs ds) (S : Same H' H2) : NewHands H H2 b xs ds :=
  ⟨g.same.trans S, g.nb, S _ _ g.at', g.len, fun i x d e1 e2 => (g.hand i x d e1 e2).mono S, g.new, fun y hy => by
    cases e : H' y with
    | none => exact absurd e (g.old y hy)
    | some o => rw [S _ _ e]; simp, g.nd, g.ne⟩
theorem NewHands.snoc {H H' : Hp} {b : Addr} {xs : List HX} {ds : List HD} {x : HX} {d : HD} (g : NewHands H H' b xs ds) (h : HandAt H' x d) (hn : ∀ y ∈ x.adr, H y = none) (hx : x.adr.Nodup) (ho : ∀ y ∈ x.adr, y ∉ adrs xs) (hb : b ∉ x.adr) :
    NewHands H (upd H' b (.lst (xs.map (fun x => V.ref x.t) ++ [.ref x.t]))) b (xs ++ [x]) (ds ++ [d]) := by
  have ap : adrs (xs ++ [x]) = adrs xs ++ x.adr := by simp [adrs]
  have keep : ∀ y o, y ≠ b -> H' y = some o -> upd H' b (.lst (xs.map (fun x => V.ref x.t) ++ [.ref x.t])) y = some o := fun y o e q => by rw [zr e]; exact q
  have hand' : ∀ {z : HX} {e : HD}, HandAt H' z e -> b ∉ z.adr -> HandAt (upd H' b (.lst (xs.map (fun x => V.ref x.t) ++ [.ref x.t]))) z e := fun {z e} q nb => by
    have n : ∀ y ∈ z.adr, y ≠ b := fun y hy e => nb (e ▸ hy)
    exact ⟨keep _ _ (n _ (by simp [HX.adr])) q.tup, keep _ _ (n _ (by simp [HX.adr])) q.words, keep _ _ (n _ (by simp [HX.adr])) q.grid, q.len, fun i r ns e1 e2 => keep _ _ (n _ (by simp [HX.adr, Zi e1])) (q.row i r ns e1 e2)⟩
  refine ⟨Same.upd g.same g.nb, g.nb, by rw [ze]; simp, by simp [g.len], fun i z e e1 e2 => ?_, fun y hy => ?_, fun y hy => ?_, ?_, ?_⟩
  . by_cases hi : i < xs.length
    . rw [Zg hi] at e1
      rw [Zg (by rw [<- g.len]; exact hi)] at e2;refine hand' (g.hand i z e e1 e2) fun q => g.ne ?_
      exact YG.mpr ⟨_, Zp.mpr ⟨z, Zi e1, rfl⟩, q⟩
    . rw [Zf (ZD.mp hi)] at e1
      rw [Zf (by rw [<- g.len]; exact ZD.mp hi)] at e2
      have e0 : i - xs.length = 0 := by
        have := (Zc.mp e1).1;simp at this; omega
      rw [e0] at e1;rw [<- g.len, e0] at e2;simp at e1 e2;subst e1 e2;exact hand' h hb
  . rw [ap] at hy
    rcases ZH.mp hy with z | z
    . exact g.new y z
    . exact hn y z
  . rw [ap] at hy
    have hyb : y ≠ b := fun e => by
      rcases ZH.mp hy with z | z
      . exact g.ne (e ▸ z)
      . exact hb (e ▸ z)
    rw [zr hyb]
    rcases ZH.mp hy with z | z
    . exact g.old y z
    . rcases ZK.mp z with e | z
      . rw [e, h.tup]; simp
      rcases ZK.mp z with e | z
      . rw [e, h.words]; simp
      rcases ZK.mp z with e | z
      . rw [e, h.grid]; simp
      . obtain ⟨i, hi, rfl⟩ := Zy z
        have e1 : x.gs[i]? = some x.gs[i] := by simp [hi]
        have hi2 : i < d.worths.length := by rw [<- h.len]; exact hi
        have e2 : d.worths[i]? = some d.worths[i] := by simp [hi2]
        rw [h.row i _ _ e1 e2]; simp
  . rw [ap]
    refine Yp.mpr ⟨g.nd, hx, fun y hy z hz e => ?_⟩;exact ho z hz (e ▸ hy)
  . rw [ap]
    intro z
    rcases ZH.mp z with z | z
    . exact g.ne z
    . exact hb z
def y1 (ns : List Int) : Nat := (1 + zx ns 1 % 8).toNat
def rk (ns : List Int) : List Str := xi (zx ns 0) (y1 ns)
def wj (ns : List Int) : Nat := (1 + zx ns 1 / 8 % 4).toNat
def xq (ns tops : List Int) (j : Nat) : Nat := (1 + zx ns 2 / ([1, 9, 83, 761] : List Int).getD j 0 % tops.getD (zx ns 1 / 8 % 4).toNat 0).toNat
def m6 (ns : List Int) (j : Nat) : Int := [zx ns 0, zx ns 0 / 5 + j, zx ns 3 + 31 * j].getD (zx ns 1 / 32 % 3).toNat 0
def ub (ns : List Int) : Int := [zx ns 0, zx ns 0 / 7 + 2].getD (zx ns 1 / 96 % 2).toNat 0
def rowA (ns : List Int) (k n : Nat) : List Int := (List.range n).map fun i => ow (uw ns (k + i))
def vg (ns : List Int) (k n m : Nat) : List (List Int) := (List.range m).map fun r => rowA ns (k + r * n) n
def xc (ns tops : List Int) : Nat -> Nat
  | 0 => 0
  | j + 1 => xc ns tops j + xq ns tops j * y1 ns
def cn (ns tops : List Int) (j : Nat) : HD := ⟨wq (ub ns) j, xi (m6 ns j) (xq ns tops j), vg ns (xc ns tops j) (y1 ns) (xq ns tops j)⟩
def x9 (ns tops : List Int) (m : Nat) : List HD := (List.range m).map (cn ns tops)
theorem za9 (ns tops : List Int) (m : Nat) : x9 ns tops (m + 1) = x9 ns tops m ++ [cn ns tops m] := by rw [x9, Yx, Zn]; rfl
theorem zew (ns : List Int) (k n : Nat) : rowA ns k (n + 1) = rowA ns k n ++ [ow (uw ns (k + n))] := by rw [rowA, Yx, Zn]; rfl
theorem ii (ns : List Int) (k n : Nat) : (rowA ns k n).length = n := by rw [rowA, Za, Yh]
theorem zc0 (ns : List Int) (k n m : Nat) : vg ns k n (m + 1) = vg ns k n m ++ [rowA ns (k + m * n) n] := by rw [vg, Yx, Zn]; rfl
theorem dt (ns : List Int) (k n m : Nat) : (vg ns k n m).length = m := by rw [vg, Za, Yh]
theorem y3 (a : Int) {n : Int} (h : 0 < n) : 0 <= a % n /\ a % n < n := ⟨ZZ _ (by omega), ZU _ h⟩
theorem oy (ns : List Int) : 1 <= y1 ns /\ y1 ns <= 8 := by
  have := y3 (zx ns 1) (show (0 : Int) < 8 by decide);unfold y1; omega
theorem nj (ns : List Int) : 1 <= wj ns /\ wj ns <= 4 := by
  have := y3 (zx ns 1 / 8) (show (0 : Int) < 4 by decide);unfold wj; omega
def Tops (tops : List Int) : Prop := tops.length = 4 /\ ∀ t ∈ tops, 1 <= t /\ t <= 8
theorem Tops.get {tops : List Int} (h : Tops tops) (ns : List Int) : ∃ t, tops[(zx ns 1 / 8 % 4).toNat]? = some t /\ tops.getD (zx ns 1 / 8 % 4).toNat 0 = t /\ 1 <= t /\ t <= 8 := by
  have := y3 (zx ns 1 / 8) (show (0 : Int) < 4 by decide);have hl : (zx ns 1 / 8 % 4).toNat < tops.length := by rw [h.1]; omega
  refine ⟨tops[(zx ns 1 / 8 % 4).toNat], by simp [hl], by rw [Zk]; simp [hl], h.2 _ (Zl hl)⟩
theorem qh {ns tops : List Int} (h : Tops tops) (j : Nat) : 1 <= xq ns tops j /\ xq ns tops j <= 8 := by
  obtain ⟨t, _, e, h1, h2⟩ := h.get ns;unfold xq;rw [e];have := y3 (zx ns 2 / ([1, 9, 83, 761] : List Int).getD j 0) (show 0 < t by omega);omega
theorem au {α : Type} {xs : List α} {i : Int} (h0 : 0 <= i) {v : α} (h : xs[i.toNat]? = some v) : atI xs i = some v := by
  have := z0 h
  rwa [Yb h0] at this
def zb9 (K : Fg) : Sp := fun vs H Q _ => ∃ (a tp : Addr) (ns tops : List Int), vs = [.ref a, .ref tp] /\ SqL K H a (ns.map V.int) /\ SqL K H tp (tops.map V.int) /\ Tops tops /\
  ∀ H1 H2 H3 (o b p : Addr) (xs : List HX), Same H H1 -> H o = none -> H1 o = some (.lst ((rk ns).map V.str)) -> NewHands H1 H2 b xs (x9 ns tops (wj ns)) -> H2 p = none -> H3 = upd H2 p (.tup [.ref o, .ref b]) -> Q (.ref p) H3
def PvH (a tp o b : Addr) (ns tops : List Int) (H1 : Hp) (j : Nat) : L2.St -> Hp -> Prop := fun σ H' => ∃ (xs : List HX) (t1 t2 t3 t4 t5 : Option V), NewHands H1 H' b xs (x9 ns tops j) /\ σ = [some (V.ref a), some (V.ref tp), some (V.int (zx ns 0)), some (V.int (zx ns 1)), some (V.ref o), some (V.ref b), some (V.int (xc ns tops j)), t1, t2, t3, t4, t5]
def PvG (a tp o b g wl : Addr) (ns tops : List Int) (H5 : Hp) (j : Nat) (m : Nat) : L2.St -> Hp -> Prop := fun σ H' => ∃ (gs : List Addr) (t2 t5 : Option V), NewGrid H5 H' g gs (vg ns (xc ns tops j) (y1 ns) m) m (y1 ns) /\ σ = [some (V.ref a), some (V.ref tp), some (V.int (zx ns 0)), some (V.int (zx ns 1)), some (V.ref o), some (V.ref b), some (V.int ((xc ns tops j + m * y1 ns : Nat) : Int)), some (V.int j), t2, some (V.ref wl), some (V.ref g), t5]
def PvR (ns : List Int) (H6 : Hp) (k : Nat) (i : Nat) (ys : List V) (H' : Hp) : Prop := H' = H6 /\ ys = (rowA ns k i).map V.int
section
variable {P : Program} {w : World} {K : Fg} {mg : Str -> Option Value} {base : Heap}
theorem m3 (B : Bt mg) (y0 : FnAt P w K mg base "_law_cell_at" 1 ["script", "k"] (kn K)) (u9 : FnAt P w K mg base "_law_pool" 1 ["cell", "many"] zd5) (mz : FnAt P w K mg base "_law_worth" 1 ["cell"] zcp) (wg : FnAt P w K mg base "_law_drawn" 2 ["script", "k"] (fj K))
    (D : zf K mg "_law_parts" rf ["script", "tops"]) : FnAt P w K mg base "_law_parts" 3 ["script", "tops"] (zb9 K) := by
  refine FnAt.of D sc_law_parts (fun vs H Q E h => ?_) (fun f cdv A outer s H vs Q E hr h => ?_)
  . obtain ⟨a, tp, ns, tops, rfl, _⟩ := h
    rfl
  . obtain ⟨a, tp, ns, tops, rfl, hS, hT, ht, q⟩ := h
    refine ⟨_, (@zi _ _ _ _ _ (zy (i := 2) sc_law_parts.nd rfl (Or.inl rfl) (zj y0 (hr.mono (by decide)) rfl (za (pv 0) (za (@zg _ _ _ _) (@zb _))))) (@zi _ _ _ _ _ (zy (i := 3) sc_law_parts.nd rfl (Or.inl rfl) (zj y0 (hr.mono (by decide)) rfl (za (pv 0) (za (@zg _ _ _ _) (@zb _))))) (@zi _ _ _ _ _ (zy (i := 4) sc_law_parts.nd rfl (Or.inl rfl) (zj u9 (hr.mono (by decide)) rfl (za (pv 2) (za (@zl _ _ _ _ _ _ _ _ yp (@zg _ _ _ _) (@zl _ _ _ _ _ _ _ _ yl (pv 3) (@zg _ _ _ _))) (@zb _))))) (@zi _ _ _ _ _ (zy (i := 5) sc_law_parts.nd rfl (Or.inl rfl) (@y8 _ _ _ _ (@zb _))) (@zi _ _ _ _ _ (zy (i := 6) sc_law_parts.nd rfl (Or.inr rfl) (@zg _ _ _ _)) (@zi _ _ _ _ _ (yw PassesOwn.never rfl (yi rfl B.range (za (@zl _ _ _ _ _ _ _ _ yp (@zg _ _ _ _) (@zl _ _ _ _ _ _ _ _ yl (@zl _ _ _ _ _ _ _ _ xa (pv 3) (@zg _ _ _ _)) (@zg _ _ _ _))) (@zb _))) (zo (i := 7) sc_law_parts.nd rfl (Or.inl rfl)) (@zi _ _ _ _ _ (zy (i := 8) sc_law_parts.nd rfl (Or.inl rfl) (@zl _ _ _ _ _ _ _ _ yp (@zg _ _ _ _) (@zl _ _ _ _ _ _ _ _ yl (@zl _ _ _ _ _ _ _ _ xa (zj y0 (hr.mono (by decide)) rfl (za (pv 0) (za (@zg _ _ _ _) (@zb _)))) (@zw _ _ _ _ _ _ _ z9 (@y8 _ _ _ _ (za (@zg _ _ _ _) (za (@zg _ _ _ _) (za (@zg _ _ _ _) (za (@zg _ _ _ _) (@zb _)))))) (pv 7) (fun _ _ => rfl))) (@zw _ _ _ _ _ _ _ z9 (pv 1) (@zl _ _ _ _ _ _ _ _ yl (@zl _ _ _ _ _ _ _ _ xa (pv 3) (@zg _ _ _ _)) (@zg _ _ _ _)) (fun _ _ => rfl))))) (@zi _ _ _ _ _ (zy (i := 9) sc_law_parts.nd rfl (Or.inl rfl) (zj u9 (hr.mono (by decide)) rfl (za (@zw _ _ _ _ _ _ _ z9 (@y8 _ _ _ _ (za (pv 2) (za (@zl _ _ _ _ _ _ _ _ yp (@zl _ _ _ _ _ _ _ _ xa (pv 2) (@zg _ _ _ _)) (pv 7)) (za (@zl _ _ _ _ _ _ _ _ yp (zj y0 (hr.mono (by decide)) rfl (za (pv 0) (za (@zg _ _ _ _) (@zb _)))) (@zl _ _ _ _ _ _ _ _ u3 (@zg _ _ _ _) (pv 7))) (@zb _))))) (@zl _ _ _ _ _ _ _ _ yl (@zl _ _ _ _ _ _ _ _ xa (pv 3) (@zg _ _ _ _)) (@zg _ _ _ _)) (fun _ _ => rfl)) (za (pv 8) (@zb _))))) (@zi _ _ _ _ _ (zy (i := 10) sc_law_parts.nd rfl (Or.inl rfl) (@y8 _ _ _ _ (@zb _))) (@zi _ _ _ _ _ (yw PassesOwn.never rfl (@yh _ _ _ _ (pv 9)) (zo (i := 11) sc_law_parts.nd rfl (Or.inl rfl)) (@zi _ _ _ _ _ (wn (t8 PySem.F.plainAttrs_list PySem.F.slot_list_append PySem.F.type_list_append up (pv 10) (za (yk ["i"] ["script", "tops", "first", "shape", "outcomes", "hands", "k", "j", "size", "words", "worths", "word"] rfl (yi rfl B.range (za (zn zq rfl B.len ye (za (pv 4) (@zb _))) (@zb _))) (fun _ => (zo (i := 0) (show (["i", "script", "tops", "first", "shape", "outcomes", "hands", "k", "j", "size", "words", "worths", "word"] : List Str).Nodup by decide +kernel) rfl (Or.inl rfl))) (fun _ => (@yc _)) (fun _ => (zj mz (hr.mono (by decide)) rfl (za (zj wg (hr.mono (by decide)) rfl (za (pv 1) (za (@zl _ _ _ _ _ _ _ _ yp (pv 7) (pv 0)) (@zb _)))) (@zb _)))) rfl (by decide +kernel) rfl rfl) (@zb _)))) (@zh _ _ _ (zy (i := 6) sc_law_parts.nd rfl (Or.inr rfl) (@zl _ _ _ _ _ _ _ _ yp (pv 6) (zn zq rfl B.len ye (za (pv 4) (@zb _)))))))) (@zh _ _ _ (wn (t8 PySem.F.plainAttrs_list PySem.F.slot_list_append PySem.F.type_list_append up (pv 5) (@za _ _ _ _ _ (@y9 _ _ _ _ _ (@za _ _ _ _ _ (@zw _ _ _ _ _ _ _ z9 (zj u9 (hr.mono (by decide)) rfl (@za _ _ _ _ _ (@zw _ _ _ _ _ _ _ z9 (@y8 _ _ _ _ (@za _ _ _ _ _ (pv 2) (@za _ _ _ _ _ (@zl _ _ _ _ _ _ _ _ yp (@zl _ _ _ _ _ _ _ _ xa (pv 2) (@zg _ _ _ _)) (@zg _ _ _ _)) (@zb _) (z8 nofun)) (z8 nofun))) (@zl _ _ _ _ _ _ _ _ yl (@zl _ _ _ _ _ _ _ _ xa (pv 3) (@zg _ _ _ _)) (@zg _ _ _ _)) (fun _ _ => rfl)) (@za _ _ _ _ _ (@zg _ _ _ _) (@zb _) (z8 nofun)) (z8 nofun))) (pv 7) (fun _ _ => rfl)) (@za _ _ _ _ _ (pv 9) (@za _ _ _ _ _ (pv 10) (@zb _) (z8 nofun)) (z8 nofun)) (z8 nofun))) (@zb _) (z8 nofun)))))))))) (@zh _ _ _ (@zm _ _ _ _ (@y9 _ _ _ _ _ (za (pv 4) (za (pv 5) (@zb _)))))))))))), ?_⟩;rw [show zt ["script", "tops", "first", "shape", "outcomes", "hands", "k", "j", "size", "words", "worths", "word"] [V.ref a, V.ref tp] = [some (V.ref a), some (V.ref tp), none, none, none, none, none, none, none, none, none, none] from rfl];simp only [zc, zd, ↓reduceIte];refine ⟨a, ns, 0, rfl, hS, ?_⟩;simp only [zc, zd, ↓reduceIte];refine ⟨a, ns, 1, rfl, hS, ?_⟩;simp only [zc, zd, ↓reduceIte];refine ⟨by decide, zx ns 0, y1 ns, ?_, ?_, fun H1 o S1 ho ho1 => ?_⟩
    . have := y3 (zx ns 1) (show (0 : Int) < 8 by decide)
      rw [show ((y1 ns : Nat) : Int) = 1 + zx ns 1 % 8 by unfold y1; omega]
    . have := oy ns; omega
    simp only [zc, zd, ↓reduceIte];refine ⟨by decide, fun b hb => ?_⟩;have hh := y3 (zx ns 1 / 8) (show (0 : Int) < 4 by decide);have hN := nj ns;have hO := oy ns;refine ⟨⟨by decide, by decide⟩, by decide, by omega, by omega, ?_⟩;rw [show (1 + zx ns 1 / 8 % 4).toNat = wj ns from rfl];refine xh (PvH a tp o b ns tops H1) ⟨[], _, _, _, _, _, NewHands.nil (Same.refl _) hb, rfl⟩ ?_ ?_
    . rintro j σ H' hj ⟨xs, t1, t2, t3, t4, t5, G, rfl⟩
      simp only [zc, zd, ↓reduceIte];have SA := S1.trans G.same;refine ⟨a, ns, 2, rfl, SA.seq hS, by decide, fun p1 hp1 => ?_⟩;have S2 : Same H' (upd H' p1 (.lst [V.int 1, V.int 9, V.int 83, V.int 761])) := Same.upd (Same.refl _) hp1;have hl2 : upd H' p1 (.lst [V.int 1, V.int 9, V.int 83, V.int 761]) p1 = some (.lst [V.int 1, V.int 9, V.int 83, V.int 761]) := ze;generalize upd H' p1 (.lst [V.int 1, V.int 9, V.int 83, V.int 761]) = H2 at *
      have hdiv : [V.int 1, V.int 9, V.int 83, V.int 761][j]? = some (V.int (([1, 9, 83, 761] : List Int).getD j 0)) /\ 0 < ([1, 9, 83, 761] : List Int).getD j 0 /\ ([1, 9, 83, 761] : List Int).getD j 0 < 1073741824 := by
        have : ∀ k : Fin 4, [V.int 1, V.int 9, V.int 83, V.int 761][k.val]? = some (V.int (([1, 9, 83, 761] : List Int).getD k.val 0)) /\ 0 < ([1, 9, 83, 761] : List Int).getD k.val 0 /\ ([1, 9, 83, 761] : List Int).getD k.val 0 < 1073741824 := by decide
        exact this ⟨j, by omega⟩
      refine ⟨_, .of hl2, _, z0 hdiv.1, ?_⟩;simp only [zc, zd, ↓reduceIte];obtain ⟨t, et, et2, ht1, ht2⟩ := ht.get ns;refine ⟨⟨hdiv.2.1, hdiv.2.2⟩, ⟨by decide, by decide⟩, by decide, _, (SA.trans S2).seq hT, _, au hh.1 (v := V.int t) (by rw [Ze, et]; rfl), ?_⟩;simp only [zc, zd, ↓reduceIte];refine ⟨by omega, ⟨by decide, by decide⟩, a, ns, 3, rfl, (SA.trans S2).seq hS, ?_⟩;simp only [zc, zd, ↓reduceIte];refine ⟨.inl ⟨by decide, by decide⟩, by decide, fun p2 hp2 => ?_⟩;have S3 : Same H2 (upd H2 p2 (.lst [V.int (zx ns 0), V.int (zx ns 0 / 5 + j), V.int (zx ns 3 + 31 * j)])) := Same.upd (Same.refl _) hp2;have hl3 : upd H2 p2 (.lst [V.int (zx ns 0), V.int (zx ns 0 / 5 + j), V.int (zx ns 3 + 31 * j)]) p2 = some (.lst [V.int (zx ns 0), V.int (zx ns 0 / 5 + j), V.int (zx ns 3 + 31 * j)]) := ze;generalize upd H2 p2 (.lst [V.int (zx ns 0), V.int (zx ns 0 / 5 + j), V.int (zx ns 3 + 31 * j)]) = H3 at *;have h32 := y3 (zx ns 1 / 32) (show (0 : Int) < 3 by decide)
      have hw3 : [V.int (zx ns 0), V.int (zx ns 0 / 5 + j), V.int (zx ns 3 + 31 * j)][(zx ns 1 / 32 % 3).toNat]? = some (V.int (m6 ns j)) := by
        unfold m6;have : (zx ns 1 / 32 % 3).toNat < 3 := by omega
        generalize (zx ns 1 / 32 % 3).toNat = m at this ⊢
        match m, this with
        | 0, _ => rfl
        | 1, _ => rfl
        | 2, _ => rfl
      refine ⟨⟨by decide, by decide⟩, by decide, _, .of hl3, _, au h32.1 hw3, m6 ns j, xq ns tops j, ?_, ?_, fun H4 wl S4 hwl hwl4 => ?_⟩
      . have := y3 (zx ns 2 / ([1, 9, 83, 761] : List Int).getD j 0) (show 0 < t by omega)
        rw [show ((xq ns tops j : Nat) : Int) = 1 + zx ns 2 / ([1, 9, 83, 761] : List Int).getD j 0 % t by unfold xq; rw [et2]; omega]
      . have := qh (ns := ns) ht j; omega
      refine ⟨by decide, fun g hg => ?_⟩;have hwN := qh (ns := ns) ht j;have SB := (SA.trans S2).trans (S3.trans S4);have GG := (G.more S2).more (S3.trans S4);have hwg : upd H4 g (.lst []) wl = some (.lst ((xi (m6 ns j) (xq ns tops j)).map V.str)) := by rw [zr (y6 hwl4 hg)]; exact hwl4
      refine ⟨_, rfl, ⟨_, .of hwg⟩, ?_⟩;refine wf (K := K) (xs := (xi (m6 ns j) (xq ns tops j)).map V.str) (PvG a tp o b g wl ns tops H4 j) ⟨[], _, _, NewGrid.nil (Same.refl _) hg, by rw [Nat.zero_mul, Nat.add_zero]⟩ ?_ ?_ ?_
      . rintro m σ H5 hm ⟨gs, t2, t5, NG, rfl⟩
        exact .of (NG.same _ _ hwl4)
      . rintro m x σ H5 hx ⟨gs, t2, t5, NG, rfl⟩
        simp only [zc, zd, ↓reduceIte];have So : Same H1 H5 := (G.same.trans (S2.trans (S3.trans S4))).trans NG.same;have ho5 : H5 o = some (.lst ((rk ns).map V.str)) := So _ _ ho1
        have hm : m < xq ns tops j := by
          have := (Zc.mp hx).1;rw [Za, xu] at this;exact this
        have hol : ((rk ns).map V.str).length = y1 ns := by rw [Za, rk, xu]
        refine ⟨.inl ⟨rfl, _, .of NG.at'⟩, _, .inl (.of ho5), ?_⟩;rw [hol, Zw];refine ⟨by omega, by omega, fun d => ?_⟩;refine y7 (PvR ns H5 (xc ns tops j + m * y1 ns)) ⟨rfl, rfl⟩ ?_ ?_ ?_
        . rintro i ys H6 hi ⟨rfl, rfl⟩
          rw [Za, ii];exact Zd (show i <= 8 by omega) (by decide)
        . rintro i ys H6 hi ⟨rfl, rfl⟩
          simp only [zc, zd, ↓reduceIte];refine ⟨a, ns, xc ns tops j + m * y1 ns + i, ?_, (S1.trans So).seq hS, ?_⟩
          . rw [show ((xc ns tops j + m * y1 ns : Nat) : Int) + (i : Int) = ((xc ns tops j + m * y1 ns + i : Nat) : Int) by omega]
          refine ⟨_, rfl, rfl, ?_⟩;rw [zew, Zn];rfl
        . rintro ys H6 ⟨rfl, rfl⟩ l hl
          have hgl : g ≠ l := y6 NG.at' hl;refine ⟨gs.map V.ref, by rw [zr hgl]; exact NG.at', ?_, (rk ns).map V.str, .inl ?_, ?_⟩
          . rw [Za, NG.lb]
            exact Zh hm (Zd hwN.2 (by decide))
          . have hog : o ≠ g := fun e => by
              have h1 := (G.same.trans (S2.trans (S3.trans S4))) _ _ ho1;rw [e, hg] at h1; cases h1
            have hol2 : o ≠ l := y6 ho5 hl;exact .of (by rw [zr hog, zr hol2]; exact ho5)
          . have NG2 := NG.laid (c := l) (o := .lst ((rowA ns (xc ns tops j + m * y1 ns) (y1 ns)).map V.int)) hl
            have NG3 := NG2.snoc (c := l) (ns := rowA ns (xc ns tops j + m * y1 ns) (y1 ns)) (NG.same.free hl) ze (ii ..) (fun z => by
              obtain ⟨k, hk, e⟩ := Zy z;have e1 : gs[k]? = some l := by rw [<- e]; simp [hk]
              have hk2 : k < (vg ns (xc ns tops j) (y1 ns) m).length := by rw [NG.lr, <- NG.lb]; exact hk
              have e2 : (vg ns (xc ns tops j) (y1 ns) m)[k]? = some (vg ns (xc ns tops j) (y1 ns) m)[k] := by simp [hk2]
              have := (NG.row k l _ e1 e2).1
              rw [hl] at this; cases this) (Ne.symm hgl)
            refine ⟨gs ++ [l], t2, some x, ?_, ?_⟩
            . rw [zc0]
              exact NG3
            . rw [hol, show ((xc ns tops j + m * y1 ns : Nat) : Int) + (y1 ns : Int) = ((xc ns tops j + (m + 1) * y1 ns : Nat) : Int) by rw [Nat.succ_mul]; omega]
      . rintro σ H5 ⟨gs, t2, t5, NG, rfl⟩
        rw [Za, xu] at NG ⊢;simp only [zc, zd, ↓reduceIte];have S5 := NG.same;have GH := GG.more S5;have hb5 := GH.at';refine ⟨.inl ⟨rfl, _, .of hb5⟩, ⟨by decide, by decide⟩, by decide, fun p3 hp3 => ?_⟩;have S6 : Same H5 (upd H5 p3 (.lst [V.int (zx ns 0), V.int (zx ns 0 / 7 + 2)])) := Same.upd (Same.refl _) hp3;have hl6 : upd H5 p3 (.lst [V.int (zx ns 0), V.int (zx ns 0 / 7 + 2)]) p3 = some (.lst [V.int (zx ns 0), V.int (zx ns 0 / 7 + 2)]) := ze;generalize upd H5 p3 (.lst [V.int (zx ns 0), V.int (zx ns 0 / 7 + 2)]) = H6 at *;have h96 := y3 (zx ns 1 / 96) (show (0 : Int) < 2 by decide)
        have hw6 : [V.int (zx ns 0), V.int (zx ns 0 / 7 + 2)][(zx ns 1 / 96 % 2).toNat]? = some (V.int (ub ns)) := by
          unfold ub;have : (zx ns 1 / 96 % 2).toNat < 2 := by omega
          generalize (zx ns 1 / 96 % 2).toNat = m at this ⊢
          match m, this with
          | 0, _ => rfl
          | 1, _ => rfl
        refine ⟨⟨by decide, by decide⟩, by decide, _, .of hl6, _, au h96.1 hw6, ub ns, 4, rfl, by decide, fun H7 l S7 hl hl7 => ?_⟩;have hj4 : j < 4 := by omega
        refine ⟨_, rfl, _, .of hl7, V.str (wq (ub ns) j), ?_, by decide, fun tt htt => ?_⟩
        . refine z0 ?_
          rw [Ze, xi, Ze, List.getElem?_range hj4];rfl
        have S57 := S6.trans S7;have S8 : Same H7 (upd H7 tt (.tup [V.str (wq (ub ns) j), V.ref wl, V.ref g])) := Same.upd (Same.refl _) htt;have htt8 : upd H7 tt (.tup [V.str (wq (ub ns) j), V.ref wl, V.ref g]) tt = some (.tup [V.str (wq (ub ns) j), V.ref wl, V.ref g]) := ze;generalize upd H7 tt (.tup [V.str (wq (ub ns) j), V.ref wl, V.ref g]) = H8 at *;have S58 := S57.trans S8;have G7 := GH.more S57;have G8 := GH.more S58;have hb8 := G8.at';have hd : HandAt H8 ⟨tt, wl, g, gs⟩ (cn ns tops j) := ⟨htt8, S58 _ _ (S5 _ _ hwl4), S58 _ _ NG.at', by rw [NG.lb]; exact (dt ..).symm, fun i r ms e1 e2 => S58 _ _ (NG.row i r ms e1 e2).1⟩
        have h4 : ∀ y ∈ g :: gs, H4 y = none := fun y hy => by
          rcases ZK.mp hy with e | z
          . rw [e]; exact hg
          . exact NG.nr y z
        have S14 : Same H1 H4 := GG.same;have S13 : Same H1 H3 := G.same.trans (S2.trans S3)
        have h5 : ∀ y ∈ wl :: g :: gs, H5 y ≠ none := fun y hy => by
          rcases ZK.mp hy with e | z
          . rw [e, S5 _ _ hwl4]; simp
          rcases ZK.mp z with e | z
          . rw [e, NG.at']; simp
          . obtain ⟨k, hk, e⟩ := Zy z
            have e1 : gs[k]? = some y := by rw [<- e]; simp [hk]
            have hk2 : k < (vg ns (xc ns tops j) (y1 ns) (xq ns tops j)).length := by rw [NG.lr, <- NG.lb]; exact hk
            have e2 : (vg ns (xc ns tops j) (y1 ns) (xq ns tops j))[k]? = some (vg ns (xc ns tops j) (y1 ns) (xq ns tops j))[k] := by simp [hk2]
            rw [(NG.row k y _ e1 e2).1]; simp
        have htt5 : H5 tt = none := S57.free htt;have G3 := (G.more S2).more S3;refine ⟨_, hb8, ?_, ?_⟩
        . rw [Za, G.len, x9, Za, Yh]
          exact Zh hj4 (by decide)
        refine ⟨xs ++ [⟨tt, wl, g, gs⟩], _, _, _, _, _, ?_, rfl⟩;rw [za9];refine G8.snoc hd (fun y hy => ?_) ?_ (fun y hy => ?_) ?_
        . rcases ZK.mp hy with e | hy
          . rw [e]; exact (S14.trans S5).free htt5
          rcases ZK.mp hy with e | hy
          . rw [e]; exact S13.free hwl
          . exact S14.free (h4 y hy)
        . refine ZY.mpr ⟨fun z => h5 _ z htt5, ZY.mpr ⟨fun z => ?_, ZY.mpr ⟨NG.ne, NG.nd⟩⟩⟩
          have := h4 _ z;rw [hwl4] at this; cases this
        . intro hz
          rcases ZK.mp hy with e | hy
          . rw [e] at hz; exact G7.old _ hz htt
          rcases ZK.mp hy with e | hy
          . rw [e] at hz; exact G3.old _ hz hwl
          . exact GG.old _ hz (h4 y hy)
        . intro hy
          rcases ZK.mp hy with e | hy
          . have := G7.at'
            rw [e, htt] at this; cases this
          rcases ZK.mp hy with e | hy
          . have := G3.at'
            rw [e, hwl] at this; cases this
          . have := GG.at'
            rw [h4 _ hy] at this; cases this
    . rintro σ H' ⟨xs, t1, t2, t3, t4, t5, G, rfl⟩
      simp only [zc, zd, ↓reduceIte];exact ⟨by decide, fun p hp => q H1 H' _ o b p xs S1 ho ho1 G hp rfl⟩
end
def px (z : Str) : Prop := 1 <= z.length /\ z.length <= 8 /\ ∀ c ∈ z.cps.toList, 97 <= c /\ c <= 122
theorem zbo (i : Int) : 97 <= letA i /\ letA i <= 122 := by
  have := y3 i (show (0 : Int) < 26 by decide);unfold letA; omega
theorem l8 {z : Str} {n c : Nat} (h : c ∈ (xf z n).cps.toList) : c ∈ z.cps.toList := by
  unfold xf at h;simp only [List.toList_toArray, YG] at h;obtain ⟨l, h1, h2⟩ := h;rw [(List.mem_replicate.mp h1).2] at h2;exact h2
theorem j9 {y z : Str} {c : Nat} (h : c ∈ (y ++ z).cps.toList) : c ∈ y.cps.toList \/ c ∈ z.cps.toList := by
  have : (y ++ z).cps.toList = y.cps.toList ++ z.cps.toList := by
    show (y.cps ++ z.cps).toList = _
    simp
  rw [this] at h;exact ZH.mp h
theorem bg (c : Int) : 1 <= vq c /\ vq c <= 8 := by
  have := y3 (numA c / 24336) (show (0 : Int) < 8 by decide);unfold vq; omega
theorem zfd (c : Int) : 0 <= tu c /\ tu c < vq c := y3 _ (by have := bg c; omega)
theorem md (c : Int) : (mf c).length = 1 := rfl
theorem k8 {c : Int} {d : Nat} (h : d ∈ (mf c).cps.toList) : 97 <= d /\ d <= 122 := by
  have : d = letA (numA c) := by simpa [mf, chr1] using h
  rw [this]; exact zbo _
theorem gj (c : Int) {k : Nat} (hk : k < 8) : px (wq c k) := by
  unfold wq;have hs := bg c;have hp := zfd c
  by_cases h : numA c / 26 % 3 = 1
  . rw [if_pos h]
    refine ⟨?_, ?_, fun d hd => k8 (l8 hd)⟩ <;> rw [xm, md] <;> omega
  . rw [if_neg h]
    refine ⟨?_, ?_, fun d hd => ?_⟩
    . rw [v8, v8, xm, xm, md]
      show 1 <= _ + 1 + _
      omega
    . rw [v8, v8, xm, xm, md]
      show _ + 1 + _ <= 8
      omega
    . rcases j9 hd with z | z
      . rcases j9 z with z | z
        . exact k8 (l8 z)
        . have : d = letA (numA c / 78 % 26 + tq c * k) := by simpa [chr1] using z
          rw [this]; exact zbo _
      . exact k8 (l8 z)
theorem zg8 {x y : Str} {n : Nat} {a b : Nat} (f : Str) (h : xf f n ++ chr1 a ++ x = xf f n ++ chr1 b ++ y) : a = b := by
  have h1 : (xf f n ++ chr1 a ++ x).cps.toList = (xf f n ++ chr1 b ++ y).cps.toList := by rw [h]
  have e : ∀ (z : Str) (a : Nat), (xf f n ++ chr1 a ++ z).cps.toList = (xf f n).cps.toList ++ ([a] ++ z.cps.toList) := fun z a => by
    show (((xf f n).cps ++ (chr1 a).cps) ++ z.cps).toList = _
    simp [chr1]
  rw [e, e] at h1;have := List.append_cancel_left h1;simp at this;exact this.1
theorem zaw (c : Int) : tq c ∈ stepsA := by
  have := y3 (numA c / 2028) (show (0 : Int) < 12 by decide);unfold tq;have hl : (numA c / 2028 % 12).toNat < stepsA.length := by show _ < 12; omega
  rw [Zk, Zb hl];exact Zl hl
theorem zgp {c : Int} {b : Int} {i j : Nat} (hi : i < 13) (hj : j < 13) (h : letA (b + tq c * i) = letA (b + tq c * j)) : i = j := by
  have hs := zaw c;generalize tq c = st at hs h;have h1 := y3 (b + st * i) (show (0 : Int) < 26 by decide);have h2 := y3 (b + st * j) (show (0 : Int) < 26 by decide);have h3 : (b + st * i) % 26 = (b + st * j) % 26 := by unfold letA at h; omega
  simp only [stepsA, ZK, Zx, or_false] at hs
  rcases hs with rfl | rfl | rfl | rfl | rfl | rfl | rfl | rfl | rfl | rfl | rfl | rfl <;> omega
theorem zd3 (c : Int) {i j : Nat} (hi : i < 13) (hj : j < 13) (h : wq c i = wq c j) : i = j := by
  unfold wq at h
  by_cases q : numA c / 26 % 3 = 1
  . rw [if_pos q, if_pos q] at h
    have := congrArg Str.length h;rw [xm, xm, md] at this;omega
  . rw [if_neg q, if_neg q] at h
    exact zgp hi hj (zg8 _ h)
theorem ml (c : Int) {n : Nat} (hn : n <= 13) : (xi c n).Nodup := by
  unfold xi;refine List.pairwise_map.mpr ?_;refine List.Pairwise.imp_of_mem ?_ (List.nodup_range (n := n));intro i j hi hj hne e;exact hne (zd3 c (by have := ZW.mp hi; omega) (by have := ZW.mp hj; omega) e)
theorem fe (c : Int) {n : Nat} (hn : n <= 8) : ∀ z ∈ xi c n, px z := fun z hz => by
  obtain ⟨i, hi, rfl⟩ := Zp.mp hz;exact gj c (by have := ZW.mp hi; omega)
theorem zdv (c : Int) : -(10 ^ 60) < ow c /\ ow c < 10 ^ 60 := by
  unfold ow;have h1 := y3 (c / 5) (show (0 : Int) < 10 ^ 18 by decide);have h2 := y3 (c / 5) (show (0 : Int) < 2 * 10 ^ 60 - 1 by decide);have h3 := y3 (c / 5) (show (0 : Int) < 19 by decide)
  split
  . omega
  . split
    . omega
    . split
      . exact ⟨by decide, by decide⟩
      . omega
structure HandsL (H : Hp) (b : Addr) (xs : List HX) (ds : List HD) : Prop where
  at' : H b = some (.lst (xs.map fun x => V.ref x.t))
  len : xs.length = ds.length
  hand : ∀ (i : Nat) (x : HX) (d : HD), xs[i]? = some x -> ds[i]? = some d -> HandAt H x d
theorem NewHands.lists {H H' : Hp} {b : Addr} {xs : List HX} {ds : List HD} (g : NewHands H H' b xs ds) : HandsL H' b xs ds := ⟨g.at', g.len, g.hand⟩
theorem HandsL.mono {H H' : Hp} {b : Addr} {xs : List HX} {ds : List HD} (S : Same H H') (g : HandsL H b xs ds) : HandsL H' b xs ds := ⟨S _ _ g.at', g.len, fun i x d e1 e2 => (g.hand i x d e1 e2).mono S⟩
section
variable {P : Program} {w : World} {K : Fg} {mg : Str -> Option Value} {base : Heap}
end
mutual
def tups : Tr -> Bool
  | .lf _ => true
  | .ls _ => false
  | .tp ts => tupss ts
def tupss : List Tr -> Bool
  | [] => true
  | t :: ts => tups t && tupss ts
end
structure GoodHouse (outs : List Str) (ds : List HD) : Prop where
  outs1 : 1 <= outs.length /\ outs.length <= 8
  outsG : ∀ z ∈ outs, px z
  outsD : outs.Nodup
  hands : 1 <= ds.length /\ ds.length <= 4
  handsG : ∀ d ∈ ds, px d.name
  handsD : (ds.map HD.name).Nodup
  words1 : ∀ d ∈ ds, 1 <= d.words.length /\ d.words.length <= 8
  wordsG : ∀ d ∈ ds, ∀ z ∈ d.words, px z
  wordsD : ∀ d ∈ ds, d.words.Nodup
  rows : ∀ d ∈ ds, d.worths.length = d.words.length
  cols : ∀ d ∈ ds, ∀ r ∈ d.worths, r.length = outs.length
  nums : ∀ d ∈ ds, ∀ r ∈ d.worths, ∀ n ∈ r, -(10 ^ 60) < n /\ n < 10 ^ 60
  few : (ds.map fun d => d.words.length).prod <= 256
theorem wb {ns tops : List Int} {m : Nat} {d : HD} (h : d ∈ x9 ns tops m) : ∃ j, j < m /\ d = cn ns tops j := by
  obtain ⟨j, hj, rfl⟩ := Zp.mp h;exact ⟨j, ZW.mp hj, rfl⟩
theorem zhs {n t : Nat} : ∀ {l : List Nat}, (∀ x ∈ l, x <= t) -> l.length = n -> l.prod <= t ^ n := by
  induction n with
  | zero => intro l _ hl; rw [List.length_eq_zero_iff.mp hl]; simp
  | succ n ih =>
    intro l h hl
    match l, hl with
    | x :: l, hl =>
      rw [List.prod_cons, Nat.pow_succ, Nat.mul_comm];exact YD (ih (fun y hy => h y (Zv _ hy)) (by simpa using hl)) (h x ZA)
def FewT (tops : List Int) : Prop := ∀ h, h < 4 -> (tops.getD h 0).toNat ^ (h + 1) <= 256
theorem goodA (ns : List Int) {tops : List Int} (ht : Tops tops) (hf : FewT tops) : GoodHouse (rk ns) (x9 ns tops (wj ns)) where
  outs1 := by rw [rk, xu]; exact oy ns
  outsG := fe _ (oy ns).2
  outsD := ml _ (by have := oy ns; omega)
  hands := by rw [x9, Za, Yh]; exact nj ns
  handsG := fun d hd => by
    obtain ⟨j, hj, rfl⟩ := wb hd;exact gj _ (by have := nj ns; omega)
  handsD := by
    have : (x9 ns tops (wj ns)).map HD.name = xi (ub ns) (wj ns) := by rw [x9, xi, List.map_map]; rfl
    rw [this];exact ml _ (by have := nj ns; omega)
  words1 := fun d hd => by
    obtain ⟨j, hj, rfl⟩ := wb hd
    show 1 <= (xi _ _).length /\ (xi _ _).length <= 8
    rw [xu]; exact qh ht j
  wordsG := fun d hd => by
    obtain ⟨j, hj, rfl⟩ := wb hd;exact fe _ (qh ht j).2
  wordsD := fun d hd => by
    obtain ⟨j, hj, rfl⟩ := wb hd;exact ml _ (by have := qh (ns := ns) ht j; omega)
  rows := fun d hd => by
    obtain ⟨j, hj, rfl⟩ := wb hd
    show (vg _ _ _ _).length = (xi _ _).length
    rw [dt, xu]
  cols := fun d hd r hr => by
    obtain ⟨j, hj, rfl⟩ := wb hd;obtain ⟨i, _, rfl⟩ := Zp.mp hr;rw [ii, rk, xu]
  nums := fun d hd r hr n hn => by
    obtain ⟨j, hj, rfl⟩ := wb hd;obtain ⟨i, _, rfl⟩ := Zp.mp hr;obtain ⟨k, _, rfl⟩ := Zp.mp hn;exact zdv _
  few := by
    obtain ⟨t, e1, e2, h1, h2⟩ := ht.get ns;have hh := y3 (zx ns 1 / 8) (show (0 : Int) < 4 by decide);have h3 := hf (zx ns 1 / 8 % 4).toNat (by omega);rw [e2] at h3;refine Zd (zhs (n := wj ns) (t := t.toNat) (fun x hx => ?_) (by rw [Za, x9, Za, Yh])) ?_
    . obtain ⟨d, hd, rfl⟩ := Zp.mp hx
      obtain ⟨j, hj, rfl⟩ := wb hd
      show (xi _ _).length <= _
      rw [xu];unfold xq;rw [e2];have := y3 (zx ns 2 / ([1, 9, 83, 761] : List Int).getD j 0) (show 0 < t by omega);omega
    . rw [show wj ns = (zx ns 1 / 8 % 4).toNat + 1 by unfold wj; omega]
      exact h3
def cv (i : Int) : Prop := -(10 ^ 60) < i /\ i < 10 ^ 60
def zea : Sp := fun vs H Q _ => ∃ i : Int, vs = [.int i] /\ Q (.bl true) H
def zfl : Sp := fun vs H Q _ => ∃ i : Int, vs = [.int i] /\ cv i /\ Q (.bl true) H
def qRow : Sp := fun vs H Q _ => ∃ (r : Addr) (ns : List Int) (n : Nat), vs = [.ref r, .int n] /\ H r = some (.lst (ns.map V.int)) /\ ns.length = n /\ n <= 8 /\ (∀ i ∈ ns, cv i) /\ ∀ H', Same H H' -> Q (.bl true) H'
def zds : Sp := fun vs H Q _ => ∃ z : Str, vs = [.str z] /\ px z /\ ∀ H', Same H H' -> Q (.bl true) H'
def bq : Sp := fun vs H Q _ => ∃ (l : Addr) (zs : List Str) (m : Nat), vs = [.ref l, .int m] /\ H l = some (.lst (zs.map V.str)) /\ 1 <= zs.length /\ zs.length <= m /\ m <= 8 /\ (∀ z ∈ zs, px z) /\ zs.Nodup /\ ∀ H', Same H H' -> Q (.bl true) H'
def zci : Sp := fun vs H Q _ => ∃ (g : Addr) (gs : List Addr) (rows : List (List Int)) (h n : Nat), vs = [.ref g, .int h, .int n] /\ H g = some (.lst (gs.map V.ref)) /\ gs.length = h /\ rows.length = h /\ h <= 8 /\ n <= 8 /\ (∀ (i : Nat) (r : Addr) (ns : List Int), gs[i]? = some r -> rows[i]? = some ns -> H r = some (.lst (ns.map V.int))) /\
  (∀ r ∈ rows, r.length = n /\ ∀ i ∈ r, cv i) /\ ∀ H', Same H H' -> Q (.bl true) H'
structure GoodD (d : HD) (n : Nat) : Prop where
  name : px d.name
  words : 1 <= d.words.length /\ d.words.length <= 8
  wordsG : ∀ z ∈ d.words, px z
  wordsD : d.words.Nodup
  rows : d.worths.length = d.words.length
  cols : ∀ r ∈ d.worths, r.length = n /\ ∀ i ∈ r, cv i
theorem GoodHouse.hand {outs : List Str} {ds : List HD} (g : GoodHouse outs ds) {d : HD} (h : d ∈ ds) : GoodD d outs.length :=
  ⟨g.handsG d h, g.words1 d h, g.wordsG d h, g.wordsD d h, g.rows d h, fun r hr => ⟨g.cols d h r hr, fun i hi => g.nums d h r hr i hi⟩⟩
def qHand : Sp := fun vs H Q _ => ∃ (x : HX) (d : HD) (n : Nat), vs = [.ref x.t, .int n] /\ HandAt H x d /\ GoodD d n /\ n <= 8 /\ ∀ H', Same H H' -> Q (.bl true) H'
def nu (f : HX -> HD -> V) : Sp := fun vs H Q _ => ∃ (x : HX) (d : HD), vs = [.ref x.t] /\ HandAt H x d /\ Q (f x d) H
def zfm : Sp := fun vs H Q _ => ∃ (b : Addr) (xs : List HX) (ds : List HD), vs = [.ref b] /\ HandsL H b xs ds /\ (∀ d ∈ ds, d.words.length <= 8) /\ ds.length <= 4 /\ Q (.int ((ds.map fun d => d.words.length).prod : Nat)) H
def zd0 : Sp := fun vs H Q _ => ∃ (o b : Addr) (outs : List Str) (xs : List HX) (ds : List HD), vs = [.ref o, .ref b] /\ H o = some (.lst (outs.map V.str)) /\ HandsL H b xs ds /\ GoodHouse outs ds /\ ∀ H', Same H H' -> Q (.bl true) H'
def allT (n : Nat) : List Bool := List.replicate n true
def PvAT (H : Hp) (i : Nat) (ys : List V) (H' : Hp) : Prop := Same H H' /\ ys = (allT i).map V.bl
theorem rq (n : Nat) : (allT n).map V.bl ++ [V.bl true] = (allT (n + 1)).map V.bl := by
  rw [allT, allT, List.replicate_succ', Zn]; rfl
theorem o0 (n : Nat) : (allT n).all id = true := by
  rw [ZP];intro x hx;exact List.eq_of_mem_replicate hx
theorem oq (n : Nat) : ((allT n).map V.bl).length = n := by rw [Za, allT, ZI]
theorem zbl {zs : List Str} (hd : zs.Nodup) : ∀ i, i <= zs.length -> seen (fun j => zs.getD j ⟨#[]⟩) i = zs.take i
  | 0, _ => rfl
  | i + 1, h => by
    have ih := zbl hd i (by omega);have hi : i < zs.length := by omega
    have e : zs.getD i ⟨#[]⟩ = zs[i] := by simp [Zk, hi]
    show (if zs.getD i ⟨#[]⟩ ∈ seen (fun j => zs.getD j ⟨#[]⟩) i then _ else seen (fun j => zs.getD j ⟨#[]⟩) i ++ [zs.getD i ⟨#[]⟩]) = _
    rw [ih, e, if_neg, Zq]
    . simp [hi]
    . intro hm
      obtain ⟨j, hj, ej⟩ := Zy hm;rw [Zj] at hj;rw [List.getElem_take] at ej;have := (List.getElem_inj hd).mp ej;omega
theorem zgv : kit0 "str" "str" = some true := by decide +kernel
theorem jx : kit0 "list" "list" = some true := by decide +kernel
theorem zhh : kit0 "tuple" "tuple" = some true := by decide +kernel
theorem zhj : kit0 "int" "int" = some true := by decide +kernel
theorem zgw : kit0 "int" "bool" = some false := by decide +kernel
theorem zgx {c : Nat} (h1 : 97 <= c) (h2 : c <= 122) : (!decide ((chr1 c).cps.toList < (Str.ofString "a").cps.toList)) = true /\ (!decide ((Str.ofString "z").cps.toList < (chr1 c).cps.toList)) = true := by
  have ea : (Str.ofString "a").cps.toList = [97] := by decide +kernel
  have ez : (Str.ofString "z").cps.toList = [122] := by decide +kernel
  have ec : (chr1 c).cps.toList = [c] := rfl;rw [ea, ez, ec]
  constructor
  . rw [decide_eq_false]
    . rfl
    . intro z
      rw [List.cons_lt_cons_iff] at z
      rcases z with z | ⟨_, z⟩
      . omega
      . exact absurd z (by simp)
  . rw [decide_eq_false]
    . rfl
    . intro z
      rw [List.cons_lt_cons_iff] at z
      rcases z with z | ⟨_, z⟩
      . omega
      . exact absurd z (by simp)
def PvNm (H : Hp) (ds : List HD) (i : Nat) (ys : List V) (H' : Hp) : Prop := H' = H /\ ys = ((ds.take i).map HD.name).map V.str
def PvCt (H : Hp) (b : Addr) (ds : List HD) (i : Nat) (σ : L2.St) (H4 : Hp) : Prop := H4 = H /\ ∃ v, σ = [some (.ref b), some (.int (((ds.take i).map fun d => d.words.length).prod : Nat)), v]
section
variable {P : Program} {w : World} {K : Fg} {mg : Str -> Option Value} {base : Heap} {a : Ad}
theorem kd (B : Bt mg) (D : zf K mg "is_whole" pz ["thing"]) : FnAt P w K mg base "is_whole" 1 ["thing"] zea := by
  refine FnAt.of D zat (fun vs H Q E h => ?_) (fun f cdv A outer s H vs Q E hr h => ?_)
  . obtain ⟨x, rfl, _⟩ := h
    rfl
  . obtain ⟨x, rfl, q⟩ := h
    refine ⟨_, (@zh _ _ _ (@zm _ _ _ _ (@om _ _ _ _ _ _ _ (zn y4 rfl B.isinstance yg (za (pv 0) (za (vy rfl B.int bf) (@zb _)))) (@m5 _ _ _ _ _ (@zfi _ _ _ _ (zn y4 rfl B.isinstance yg (za (pv 0) (za (vy rfl B.bool zcf) (@zb _))))))))), ?_⟩;rw [show zt ["thing"] [V.int x] = [some (V.int x)] from rfl];simp only [zc, zd, ↓reduceIte];exact ⟨_, .int _, true, zhj, iteT ⟨_, .int _, false, zgw, q⟩⟩
theorem o4 (B : Bt mg) (kd : FnAt P w K mg base "is_whole" 1 ["thing"] zea) (D : zf K mg "is_bounded" u1 ["thing"]) : FnAt P w K mg base "is_bounded" 2 ["thing"] zfl := by
  refine FnAt.of D d8 (fun vs H Q E h => ?_) (fun f cdv A outer s H vs Q E hr h => ?_)
  . obtain ⟨x, rfl, _⟩ := h
    rfl
  . obtain ⟨x, rfl, g, q⟩ := h
    refine ⟨_, (@zh _ _ _ (@zm _ _ _ _ (@om _ _ _ _ _ _ _ (zj kd (hr.mono (by decide)) rfl (za (pv 0) (@zb _))) (@m5 _ _ _ _ _ (@se _ _ _ _ _ _ _ _ gz (zn zf1 rfl B.abs bt_abs (za (pv 0) (@zb _))) (@zl _ _ _ _ _ _ _ _ m4 (@zg _ _ _ _) (@zg _ _ _ _)) (yq _)))))), ?_⟩;rw [show zt ["thing"] [V.int x] = [some (V.int x)] from rfl];simp only [zc, zd, ↓reduceIte];refine ⟨x, rfl, _, rfl, iteT ⟨⟨by decide, by decide, by decide⟩, ?_⟩⟩;rw [decide_eq_true]
    . exact q
    . have h1 := g.1
      have h2 := g.2
      show _ < (10 : Int) ^ 60
      split <;> omega
theorem qo (B : Bt mg) (o4 : FnAt P w K mg base "is_bounded" 2 ["thing"] zfl) (D : zf K mg "is_grid_row" uf ["thing", "width"]) : FnAt P w K mg base "is_grid_row" 3 ["thing", "width"] qRow := by
  refine FnAt.of D fh (fun vs H Q E h => ?_) (fun f cdv A outer s H vs Q E hr h => ?_)
  . obtain ⟨r, ns, n, rfl, _⟩ := h
    rfl
  . obtain ⟨r, ns, n, rfl, hr1, ln, n8, hg, q⟩ := h
    refine ⟨_, (@zi _ _ _ _ _ (@yz _ _ _ _ _ _ _ _ (PW.pt (@pc _ _ _ _ _ _ _ (@xj _ _ _ _ (xn (zn y4 rfl B.isinstance yg (za (pv 0) (za (vy rfl B.list uo) (@zb _)))))) (@tf _ _ _ _ (@yv _ _ _ _ _ _ _ _ cz (zn zq rfl B.len ye (za (pv 0) (@zb _))) (pv 1) (yq _))))) (@zh _ _ _ (@zm _ _ _ _ (@xp _ _ _ _))) (@yf _)) (@zh _ _ _ (@zm _ _ _ _ (zn (qj rfl) rfl B.all jn (za (yk ["worth"] ["thing", "width"] rfl (@yh _ _ _ _ (pv 0)) (fun _ => (zo (i := 0) (show (["worth", "thing", "width"] : List Str).Nodup by decide +kernel) rfl (Or.inl rfl))) (fun _ => (@yc _)) (fun _ => (zj o4 (hr.mono (by decide)) rfl (za (pv 0) (@zb _)))) rfl (by decide +kernel) rfl rfl) (@zb _)))))), ?_⟩;rw [show zt ["thing", "width"] [V.ref r, V.int n] = [some (V.ref r), some (V.int n)] from rfl];simp only [zc, zd, ↓reduceIte];refine ⟨_, .lst hr1, true, jx, iteF ⟨_, .inl (.of hr1), rfl, ?_⟩⟩;rw [Za, ln];refine zdj rfl ⟨⟨_, .of hr1⟩, fun d => ?_⟩;refine yo (xs := ns.map V.int) (PvAT H) ⟨Same.refl _, rfl⟩ ?_ ?_ ?_
    . rintro i ys H2 hi ⟨S, rfl⟩
      rw [Za] at hi;exact ⟨by rw [oq]; exact Zd hi (Zd (show ns.length <= 8 by omega) (by decide)), S.seq (.of hr1)⟩
    . rintro i x ys H2 hx ⟨S, rfl⟩
      obtain ⟨y, hy, rfl⟩ := yy hx;simp only [zc, zd, ↓reduceIte];exact ⟨y, rfl, hg y (Zi hy), S, rq i⟩
    . rintro ys H2 ⟨S, rfl⟩ l hl
      refine ⟨_, .of ze, ?_⟩;rw [o0];exact q _ (S.trans (Same.upd (Same.refl _) hl))
theorem rp (B : Bt mg) (D : zf K mg "is_name" mh ["thing"]) : FnAt P w K mg base "is_name" 1 ["thing"] zds := by
  refine FnAt.of D zc7 (fun vs H Q E h => ?_) (fun f cdv A outer s H vs Q E hr h => ?_)
  . obtain ⟨x, rfl, _⟩ := h
    rfl
  . obtain ⟨z, rfl, g, q⟩ := h
    refine ⟨_, (@zi _ _ _ _ _ (@yz _ _ _ _ _ _ _ _ (PW.pt (@pc _ _ _ _ _ _ _ (@xj _ _ _ _ (xn (zn y4 rfl B.isinstance yg (za (pv 0) (za (vy rfl B.str bt_str) (@zb _)))))) (@tf _ _ _ _ (@xj _ _ _ _ (zai gq gq (@zg _ _ _ _) (zn bb rfl B.len ye (za (pv 0) (@zb _))) (o9 rfl B.k_MOST_LETTERS)))))) (@zh _ _ _ (@zm _ _ _ _ (@xp _ _ _ _))) (@yf _)) (@zh _ _ _ (@zm _ _ _ _ (zn (qj rfl) rfl B.all jn (za (yk ["sign"] ["thing"] rfl (@pi_str _ _ _ _ (pv 0)) (fun _ => (zo (i := 0) (show (["sign", "thing"] : List Str).Nodup by decide +kernel) rfl (Or.inl rfl))) (fun _ => (@yc _)) (fun _ => (zga zet zet (@qc _ _ _ _) (pv 0) (@qc _ _ _ _))) rfl (by decide +kernel) rfl rfl) (@zb _)))))), ?_⟩;rw [show zt ["thing"] [V.str z] = [some (V.str z)] from rfl];simp only [zc, zd, ↓reduceIte];obtain ⟨g1, g2, g3⟩ := g;refine ⟨_, .str _, true, zgv, iteF ?_⟩;refine ⟨Zd g2 (by decide), ite2 (fun _ => ite2 (fun h => ?_) fun _ => ?_) fun h => (h (decide_eq_true (by omega))).elim⟩
    . rw [decide_eq_true (show (z.length : Int) <= 8 by omega)] at h
      cases h
    . intro d
      refine zgg (PvAT H) ⟨Same.refl _, rfl⟩ ?_ ?_ ?_
      . rintro i ys H' hi ⟨S, rfl⟩
        rw [oq];exact Zd hi (Zd (show z.cps.size <= 8 from g2) (by decide))
      . rintro i c ys H' hc ⟨S, rfl⟩
        have hm : c ∈ z.cps.toList := by
          obtain ⟨hi, e⟩ := Yg.mp hc;rw [<- e];exact Array.getElem_mem_toList hi
        obtain ⟨o1, o2⟩ := zgx (g3 c hm).1 (g3 c hm).2;simp only [zc, zd, ↓reduceIte];rw [if_pos o1, o2];exact ⟨S, rq i⟩
      . rintro ys H' ⟨S, rfl⟩ l hl
        refine ⟨_, .of ze, ?_⟩;rw [o0];exact q _ (S.trans (Same.upd (Same.refl _) hl))
theorem w9 (B : Bt mg) (rp : FnAt P w K mg base "is_name" 1 ["thing"] zds) (D : zf K mg "are_names" ra ["thing", "most"]) : FnAt P w K mg base "are_names" 2 ["thing", "most"] bq := by
  refine FnAt.of D bo (fun vs H Q E h => ?_) (fun f cdv A outer s H vs Q E hr h => ?_)
  . obtain ⟨l, zs, m, rfl, _⟩ := h
    rfl
  . obtain ⟨l, zs, m, rfl, hl, g1, g2, g3, gG, gD, q⟩ := h
    refine ⟨_, (@zi _ _ _ _ _ (@yz _ _ _ _ _ _ _ _ (PW.pt (@pc _ _ _ _ _ _ _ (@xj _ _ _ _ (xn (zn y4 rfl B.isinstance yg (za (pv 0) (za (vy rfl B.list uo) (@zb _)))))) (@tf _ _ _ _ (@xj _ _ _ _ (zai gq gq (@zg _ _ _ _) (zn zq rfl B.len ye (za (pv 0) (@zb _))) (pv 1)))))) (@zh _ _ _ (@zm _ _ _ _ (@xp _ _ _ _))) (@yf _)) (@zh _ _ _ (@zm _ _ _ _ (@om _ _ _ _ _ _ _ (zn (qj rfl) rfl B.all jn (za (yk ["one"] ["thing", "most"] rfl (@yh _ _ _ _ (pv 0)) (fun _ => (zo (i := 0) (show (["one", "thing", "most"] : List Str).Nodup by decide +kernel) rfl (Or.inl rfl))) (fun _ => (@yc _)) (fun _ => (zj rp (hr.mono (by decide)) rfl (za (pv 0) (@zb _)))) rfl (by decide +kernel) rfl rfl) (@zb _))) (@m5 _ _ _ _ _ (@se _ _ _ _ _ _ _ _ pq (zei rfl rfl B.len rfl B.set (za (pv 0) (@zb _))) (zn zq rfl B.len ye (za (pv 0) (@zb _))) (yq _))))))), ?_⟩;rw [show zt ["thing", "most"] [V.ref l, V.int m] = [some (V.ref l), some (V.int m)] from rfl];simp only [zc, zd, ↓reduceIte];refine ⟨_, .lst hl, true, jx, iteF ⟨_, .inl (.of hl), ?_⟩⟩;rw [Za];refine ite2 (fun _ => ite2 (fun h => ?_) fun _ => ?_) fun h => (h (decide_eq_true (by omega))).elim
    . rw [decide_eq_true (show (zs.length : Int) <= m by omega)] at h
      cases h
    . refine ⟨⟨_, .of hl⟩, fun d => ?_⟩
      refine yo (xs := zs.map V.str) (PvAT H) ⟨Same.refl _, rfl⟩ ?_ ?_ ?_
      . rintro i ys H2 hi ⟨S, rfl⟩
        rw [Za] at hi;exact ⟨by rw [oq]; exact Zd hi (Zd (show zs.length <= 8 by omega) (by decide)), S.seq (.of hl)⟩
      . rintro i x ys H2 hx ⟨S, rfl⟩
        obtain ⟨y, hy, rfl⟩ := yy hx;simp only [zc, zd, ↓reduceIte];exact ⟨y, rfl, gG y (Zi hy), fun H3 S3 => ⟨S.trans S3, rq i⟩⟩
      . rintro ys H2 ⟨S, rfl⟩ p hp
        have S2 : Same H (upd H2 p (.lst ((allT (zs.map V.str).length).map V.bl))) := S.trans (Same.upd (Same.refl _) hp);refine ⟨_, .of ze, ?_⟩;rw [o0];generalize upd H2 p (.lst ((allT (zs.map V.str).length).map V.bl)) = H3 at *;refine ⟨zs, S2.seq (.of hl), by omega, _, .inl (S2.seq (.of hl)), rfl, ?_⟩;rw [zbl gD _ (Zm _), Zt, Za, decide_eq_true rfl];exact q _ S2
theorem oj (B : Bt mg) (qo : FnAt P w K mg base "is_grid_row" 3 ["thing", "width"] qRow) (D : zf K mg "are_worths" u0 ["thing", "height", "width"]) : FnAt P w K mg base "are_worths" 4 ["thing", "height", "width"] zci := by
  refine FnAt.of D cb (fun vs H Q E h => ?_) (fun f cdv A outer s H vs Q E hr h => ?_)
  . obtain ⟨g, gs, rows, ht, n, rfl, _⟩ := h
    rfl
  . obtain ⟨g, gs, rows, ht, n, rfl, hg, l1, l2, b1, b2, hrow, hG, q⟩ := h
    refine ⟨_, (@zi _ _ _ _ _ (@yz _ _ _ _ _ _ _ _ (PW.pt (@pc _ _ _ _ _ _ _ (@xj _ _ _ _ (xn (zn y4 rfl B.isinstance yg (za (pv 0) (za (vy rfl B.list uo) (@zb _)))))) (@tf _ _ _ _ (@yv _ _ _ _ _ _ _ _ cz (zn zq rfl B.len ye (za (pv 0) (@zb _))) (pv 1) (yq _))))) (@zh _ _ _ (@zm _ _ _ _ (@xp _ _ _ _))) (@yf _)) (@zh _ _ _ (@zm _ _ _ _ (zn (qj rfl) rfl B.all jn (za (yk ["row"] ["thing", "height", "width"] rfl (@yh _ _ _ _ (pv 0)) (fun _ => (zo (i := 0) (show (["row", "thing", "height", "width"] : List Str).Nodup by decide +kernel) rfl (Or.inl rfl))) (fun _ => (@yc _)) (fun _ => (zj qo (hr.mono (by decide)) rfl (za (pv 0) (za (pv 3) (@zb _))))) rfl (by decide +kernel) rfl rfl) (@zb _)))))), ?_⟩;rw [show zt ["thing", "height", "width"] [V.ref g, V.int ht, V.int n] = [some (V.ref g), some (V.int ht), some (V.int n)] from rfl];simp only [zc, zd, ↓reduceIte];refine ⟨_, .lst hg, true, jx, iteF ⟨_, .inl (.of hg), rfl, ?_⟩⟩;rw [Za, l1];refine zdj rfl ⟨⟨_, .of hg⟩, fun d => ?_⟩;refine yo (xs := gs.map V.ref) (PvAT H) ⟨Same.refl _, rfl⟩ ?_ ?_ ?_
    . rintro i ys H2 hi ⟨S, rfl⟩
      rw [Za] at hi;exact ⟨by rw [oq]; exact Zd hi (Zd (show gs.length <= 8 by omega) (by decide)), S.seq (.of hg)⟩
    . rintro i x ys H2 hx ⟨S, rfl⟩
      obtain ⟨r, hr', rfl⟩ := yy hx;have hi : i < rows.length := by have := (Zc.mp hr').1; omega
      have e2 : rows[i]? = some rows[i] := by simp [hi]
      have hm := hG rows[i] (Zl hi);simp only [zc, zd, ↓reduceIte];exact ⟨r, rows[i], n, rfl, S _ _ (hrow i r rows[i] hr' e2), hm.1, b2, hm.2, fun H3 S3 => ⟨S.trans S3, rq i⟩⟩
    . rintro ys H2 ⟨S, rfl⟩ l hl
      refine ⟨_, .of ze, ?_⟩;rw [o0];exact q _ (S.trans (Same.upd (Same.refl _) hl))
theorem jk (B : Bt mg) (rp : FnAt P w K mg base "is_name" 1 ["thing"] zds) (w9 : FnAt P w K mg base "are_names" 2 ["thing", "most"] bq) (oj : FnAt P w K mg base "are_worths" 4 ["thing", "height", "width"] zci) (D : zf K mg "is_hand" me ["thing", "width"]) : FnAt P w K mg base "is_hand" 5 ["thing", "width"] qHand := by
  refine FnAt.of D zde (fun vs H Q E h => ?_) (fun f cdv A outer s H vs Q E hr h => ?_)
  . obtain ⟨x, d, n, rfl, _⟩ := h
    rfl
  . obtain ⟨x, d, n, rfl, hx, g, n8, q⟩ := h
    refine ⟨_, (@zi _ _ _ _ _ (@yz _ _ _ _ _ _ _ _ (PW.pt (@pc _ _ _ _ _ _ _ (@xj _ _ _ _ (xn (zn y4 rfl B.isinstance yg (za (pv 0) (za (vy rfl B.tuple sj) (@zb _)))))) (@tf _ _ _ _ (@yv _ _ _ _ _ _ _ _ cz (zn zq rfl B.len ye (za (pv 0) (@zb _))) (@zg _ _ _ _) (yq _))))) (@zh _ _ _ (@zm _ _ _ _ (@xp _ _ _ _))) (@yf _)) (@zh _ _ _ (@zm _ _ _ _ (@om _ _ _ _ _ _ _ (zj rp (hr.mono (by decide)) rfl (za (@zw _ _ _ _ _ _ _ yn (pv 0) (@zg _ _ _ _) (fun _ _ => rfl)) (@zb _))) (@om _ _ _ _ _ _ _ (zj w9 (hr.mono (by decide)) rfl (za (@zw _ _ _ _ _ _ _ yn (pv 0) (@zg _ _ _ _) (fun _ _ => rfl)) (za (o9 rfl B.k_MOST_WORDS) (@zb _)))) (@m5 _ _ _ _ _ (zj oj (hr.mono (by decide)) rfl (za (@zw _ _ _ _ _ _ _ yn (pv 0) (@zg _ _ _ _) (fun _ _ => rfl)) (za (zn zq rfl B.len ye (za (@zw _ _ _ _ _ _ _ yn (pv 0) (@zg _ _ _ _) (fun _ _ => rfl)) (@zb _))) (za (pv 1) (@zb _))))))))))), ?_⟩;rw [show zt ["thing", "width"] [V.ref x.t, V.int n] = [some (V.ref x.t), some (V.int n)] from rfl];simp only [zc, zd, ↓reduceIte];refine ⟨_, .tup hx.tup, true, zhh, iteF ⟨_, .inr (.of hx.tup), rfl, zdj rfl ?_⟩⟩;refine ⟨_, .of hx.tup, _, z0 (j := 0) rfl, d.name, rfl, g.name, fun H1 S1 => ?_⟩;have hx1 := hx.mono S1;refine ⟨_, rfl, iteT ⟨_, .of hx1.tup, _, z0 (j := 1) rfl, x.w, d.words, 8, rfl, hx1.words, g.words.1, g.words.2, Zm _, g.wordsG, g.wordsD, fun H2 S2 => ?_⟩⟩;have hx2 := hx1.mono S2;refine ⟨_, rfl, iteT ⟨_, .of hx2.tup, _, z0 (j := 2) rfl, _, .of hx2.tup, _, z0 (j := 1) rfl, x.w, rfl, _, .inl (.of hx2.words), ?_⟩⟩;rw [Za];have hw := g.words.2;have hr2 := g.rows;exact ⟨x.g, x.gs, d.worths, d.words.length, n, rfl, hx2.grid, by rw [hx2.len]; exact hr2, hr2, hw, n8, hx2.row, g.cols, fun H3 S3 => q H3 (S1.trans (S2.trans S3))⟩
theorem qg (D : zf K mg "name_of" ny ["hand"]) : FnAt P w K mg base "name_of" 1 ["hand"] (nu fun _ d => .str d.name) := by
  refine FnAt.of D zc6 (fun vs H Q E h => ?_) (fun f cdv A outer s H vs Q E hr h => ?_)
  . obtain ⟨x, d, rfl, _⟩ := h
    rfl
  . obtain ⟨x, d, rfl, hx, q⟩ := h
    refine ⟨_, (@zh _ _ _ (@zm _ _ _ _ (@zw _ _ _ _ _ _ _ yn (pv 0) (@zg _ _ _ _) (fun _ _ => rfl)))), ?_⟩;rw [show zt ["hand"] [V.ref x.t] = [some (V.ref x.t)] from rfl];simp only [zc, zd, ↓reduceIte];exact ⟨_, .of hx.tup, _, z0 (j := 0) rfl, q⟩
theorem yt (D : zf K mg "words_of_hand" wc ["hand"]) : FnAt P w K mg base "words_of_hand" 1 ["hand"] (nu fun x _ => .ref x.w) := by
  refine FnAt.of D na (fun vs H Q E h => ?_) (fun f cdv A outer s H vs Q E hr h => ?_)
  . obtain ⟨x, d, rfl, _⟩ := h
    rfl
  . obtain ⟨x, d, rfl, hx, q⟩ := h
    refine ⟨_, (@zh _ _ _ (@zm _ _ _ _ (@zw _ _ _ _ _ _ _ yn (pv 0) (@zg _ _ _ _) (fun _ _ => rfl)))), ?_⟩;rw [show zt ["hand"] [V.ref x.t] = [some (V.ref x.t)] from rfl];simp only [zc, zd, ↓reduceIte];exact ⟨_, .of hx.tup, _, z0 (j := 1) rfl, q⟩
theorem xy (D : zf K mg "worths_of_hand" xx ["hand"]) : FnAt P w K mg base "worths_of_hand" 1 ["hand"] (nu fun x _ => .ref x.g) := by
  refine FnAt.of D qq (fun vs H Q E h => ?_) (fun f cdv A outer s H vs Q E hr h => ?_)
  . obtain ⟨x, d, rfl, _⟩ := h
    rfl
  . obtain ⟨x, d, rfl, hx, q⟩ := h
    refine ⟨_, (@zh _ _ _ (@zm _ _ _ _ (@zw _ _ _ _ _ _ _ yn (pv 0) (@zg _ _ _ _) (fun _ _ => rfl)))), ?_⟩;rw [show zt ["hand"] [V.ref x.t] = [some (V.ref x.t)] from rfl];simp only [zc, zd, ↓reduceIte];exact ⟨_, .of hx.tup, _, z0 (j := 2) rfl, q⟩
theorem u7 (B : Bt mg) (yt : FnAt P w K mg base "words_of_hand" 1 ["hand"] (nu fun x _ => .ref x.w)) (D : zf K mg "count_of_rows" vf ["hands"]) : FnAt P w K mg base "count_of_rows" 2 ["hands"] zfm := by
  refine FnAt.of D sc_count_of_rows (fun vs H Q E h => ?_) (fun f cdv A outer s H vs Q E hr h => ?_)
  . obtain ⟨b, xs, ds, rfl, _⟩ := h
    rfl
  . obtain ⟨b, xs, ds, rfl, hh, h8, h4, q⟩ := h
    refine ⟨_, (@zi _ _ _ _ _ (zy (i := 1) sc_count_of_rows.nd rfl (Or.inl rfl) (@zg _ _ _ _)) (@zi _ _ _ _ _ (yw PassesOwn.never rfl (@yh _ _ _ _ (pv 0)) (zo (i := 2) sc_count_of_rows.nd rfl (Or.inl rfl)) (@zh _ _ _ (zy (i := 1) sc_count_of_rows.nd rfl (Or.inl rfl) (@zl _ _ _ _ _ _ _ _ u3 (pv 1) (zn zq rfl B.len ye (za (zj yt (hr.mono (by decide)) rfl (za (pv 2) (@zb _))) (@zb _))))))) (@zh _ _ _ (@zm _ _ _ _ (pv 1))))), ?_⟩;rw [show zt ["hands", "count", "hand"] [V.ref b] = [some (V.ref b), none, none] from rfl];simp only [zc, zd, ↓reduceIte];refine ⟨⟨_, .of hh.at'⟩, ?_⟩;refine wf (xs := xs.map fun x => V.ref x.t) (PvCt H b ds) ⟨rfl, _, rfl⟩ ?_ ?_ ?_
    . rintro i σ H4 hi ⟨rfl, v, rfl⟩
      exact .of hh.at'
    . rintro i x σ H4 hx ⟨rfl, v, rfl⟩
      obtain ⟨y, hy, rfl⟩ := yy hx;have hi : i < ds.length := by have := (Zc.mp hy).1; have := hh.len; omega
      have e2 : ds[i]? = some ds[i] := by simp [hi]
      have hd := hh.hand i y ds[i] hy e2;have hw := h8 ds[i] (Zl hi);simp only [zc, zd, ↓reduceIte];refine ⟨y, ds[i], rfl, hd, ?_⟩;simp only [zc, zd, ↓reduceIte];refine ⟨_, .inl (.of hd.words), ?_⟩;rw [Za];refine ⟨.inr ⟨by omega, by omega⟩, rfl, some (V.ref y.t), ?_⟩;rw [Zq, e2, Zn, List.prod_append];simp only [Option.toList, ZM, YS, List.prod_cons, List.prod_nil, Nat.mul_one, Int.natCast_mul]
    . rintro σ H4 ⟨rfl, v, rfl⟩
      simp only [zc, zd, ↓reduceIte];rw [Za, hh.len, Zt];exact q
def br : Sp := fun vs H Q _ => ∃ (b : Addr) (xs : List HX) (ds : List HD), vs = [.ref b] /\ HandsL H b xs ds /\ ds.length <= 4 /\ ∀ l, H l = none -> Q (.ref l) (upd H l (.lst ((ds.map HD.name).map V.str)))
theorem kq (qg : FnAt P w K mg base "name_of" 1 ["hand"] (nu fun _ d => .str d.name)) (D : zf K mg "names_of" pj ["hands"]) : FnAt P w K mg base "names_of" 2 ["hands"] br := by
  refine FnAt.of D zbb (fun vs H Q E h => ?_) (fun f cdv A outer s H vs Q E hr h => ?_)
  . obtain ⟨b, xs, ds, rfl, _⟩ := h
    rfl
  . obtain ⟨b, xs, ds, rfl, hh3, g4, q⟩ := h
    refine ⟨_, (@zh _ _ _ (@zm _ _ _ _ (yk ["hand"] ["hands"] rfl (@yh _ _ _ _ (pv 0)) (fun _ => (zo (i := 0) (show (["hand", "hands"] : List Str).Nodup by decide +kernel) rfl (Or.inl rfl))) (fun _ => (@yc _)) (fun _ => (zj qg (hr.mono (by decide)) rfl (za (pv 0) (@zb _)))) rfl (by decide +kernel) rfl rfl))), ?_⟩;rw [show zt ["hands"] [V.ref b] = [some (V.ref b)] from rfl];simp only [zc, zd, ↓reduceIte];refine ⟨⟨_, .of hh3.at'⟩, fun d2 => ?_⟩;refine yo (xs := xs.map fun x => V.ref x.t) (PvNm H ds) ⟨rfl, rfl⟩ ?_ ?_ ?_
    . rintro i ys H4 hi ⟨rfl, rfl⟩
      refine ⟨?_, .of hh3.at'⟩;rw [Za, Za, Zj];exact Zd (ZB _ _) (Zd g4 (by decide))
    . rintro i x ys H4 hx ⟨rfl, rfl⟩
      obtain ⟨y, hy, rfl⟩ := yy hx;have hi : i < ds.length := by have := (Zc.mp hy).1; have := hh3.len; omega
      have e2 : ds[i]? = some ds[i] := by simp [hi]
      simp only [zc, zd, ↓reduceIte];refine ⟨y, ds[i], rfl, hh3.hand i y ds[i] hy e2, rfl, ?_⟩;rw [Zq, e2, Zn, Zn];rfl
    . rintro ys H4 ⟨rfl, rfl⟩ l hl
      rw [Za, hh3.len, Zt];exact q l hl
theorem ql (B : Bt mg) (w9 : FnAt P w K mg base "are_names" 2 ["thing", "most"] bq) (jk : FnAt P w K mg base "is_hand" 5 ["thing", "width"] qHand) (kq : FnAt P w K mg base "names_of" 2 ["hands"] br) (u7 : FnAt P w K mg base "count_of_rows" 2 ["hands"] zfm)
    (D : zf K mg "makes_house" ug ["outcomes", "hands"]) : FnAt P w K mg base "makes_house" 6 ["outcomes", "hands"] zd0 := by
  refine FnAt.of D fm (fun vs H Q E h => ?_) (fun f cdv A outer s H vs Q E hr h => ?_)
  . obtain ⟨o, b, outs, xs, ds, rfl, _⟩ := h
    rfl
  . obtain ⟨o, b, outs, xs, ds, rfl, ho, hh, g, q⟩ := h
    refine ⟨_, (@zi _ _ _ _ _ (@yz _ _ _ _ _ _ _ _ (PW.pt (@pc _ _ _ _ _ _ _ (@xj _ _ _ _ (xn (zj w9 (hr.mono (by decide)) rfl (za (pv 0) (za (o9 rfl B.k_MOST_OUTCOMES) (@zb _)))))) (@tf _ _ _ _ (@xj _ _ _ _ (xn (zn y4 rfl B.isinstance yg (za (pv 1) (za (vy rfl B.list uo) (@zb _))))))))) (@zh _ _ _ (@zm _ _ _ _ (@xp _ _ _ _))) (@yf _)) (@zi _ _ _ _ _ (@yz _ _ _ _ _ _ _ _ (@xj _ _ _ _ (xn (zn (qj rfl) rfl B.all jn (za (yk ["hand"] ["outcomes", "hands"] rfl (@yh _ _ _ _ (pv 1)) (fun _ => (zo (i := 0) (show (["hand", "outcomes", "hands"] : List Str).Nodup by decide +kernel) rfl (Or.inl rfl))) (fun _ => (@yc _)) (fun _ => (zj jk (hr.mono (by decide)) rfl (za (pv 0) (za (zn zq rfl B.len ye (za (pv 1) (@zb _))) (@zb _))))) rfl (by decide +kernel) rfl rfl) (@zb _))))) (@zh _ _ _ (@zm _ _ _ _ (@xp _ _ _ _))) (@yf _)) (@zh _ _ _ (@zm _ _ _ _ (@om _ _ _ _ _ _ _ (zj w9 (hr.mono (by decide)) rfl (za (zj kq (hr.mono (by decide)) rfl (za (pv 1) (@zb _))) (za (o9 rfl B.k_MOST_HANDS) (@zb _)))) (@m5 _ _ _ _ _ (@se _ _ _ _ _ _ _ _ gq (zj u7 (hr.mono (by decide)) rfl (za (pv 1) (@zb _))) (o9 rfl B.k_MOST_ROWS) (yq _)))))))), ?_⟩;rw [show zt ["outcomes", "hands"] [V.ref o, V.ref b] = [some (V.ref o), some (V.ref b)] from rfl];simp only [zc, zd, ↓reduceIte];have g1 := g.outs1;have g2 := g.hands;refine ⟨o, outs, 8, rfl, ho, g1.1, g1.2, Zm _, g.outsG, g.outsD, fun H1 S1 => ?_⟩;simp only [zc, zd, ↓reduceIte];have hh1 := hh.mono S1;have ho1 := S1 _ _ ho;refine iteF ⟨_, .lst hh1.at', true, jx, iteF ⟨⟨_, .of hh1.at'⟩, fun d => ?_⟩⟩;refine yo (xs := xs.map fun x => V.ref x.t) (PvAT H1) ⟨Same.refl _, rfl⟩ ?_ ?_ ?_
    . rintro i ys H2 hi ⟨S, rfl⟩
      rw [Za, hh.len] at hi;exact ⟨by rw [oq]; exact Zd hi (Zd g2.2 (by decide)), S.seq (.of hh1.at')⟩
    . rintro i x ys H2 hx ⟨S, rfl⟩
      obtain ⟨y, hy, rfl⟩ := yy hx;have hi : i < ds.length := by have := (Zc.mp hy).1; have := hh.len; omega
      have e2 : ds[i]? = some ds[i] := by simp [hi]
      simp only [zc, zd, ↓reduceIte];refine ⟨_, .inl (S.seq (.of ho1)), ?_⟩;rw [Za];exact ⟨y, ds[i], outs.length, rfl, (hh1.hand i y ds[i] hy e2).mono S, g.hand (Zl hi), g1.2, fun H3 S3 => ⟨S.trans S3, rq i⟩⟩
    . rintro ys H2 ⟨S, rfl⟩ p hp
      have S2 : Same H1 (upd H2 p (.lst ((allT (xs.map fun x => V.ref x.t).length).map V.bl))) := S.trans (Same.upd (Same.refl _) hp);refine ⟨_, .of ze, ?_⟩;rw [o0];generalize upd H2 p (.lst ((allT (xs.map fun x => V.ref x.t).length).map V.bl)) = H3 at *;have hh3 := hh1.mono S2;refine iteF ⟨b, xs, ds, rfl, hh3, g2.2, fun l hl => ?_⟩;have S5 : Same H3 (upd H3 l (.lst ((ds.map HD.name).map V.str))) := Same.upd (Same.refl _) hl;refine ⟨l, ds.map HD.name, 4, rfl, ze, by rw [Za]; exact g2.1, by rw [Za]; exact g2.2, by decide, fun z hz => ?_, g.handsD, fun H6 S6 => ?_⟩
      . obtain ⟨d, hd, rfl⟩ := Zp.mp hz
        exact g.handsG d hd
      . generalize upd H3 l (.lst ((ds.map HD.name).map V.str)) = H5 at *
        have S36 := S5.trans S6;have few := g.few;refine ⟨_, rfl, iteT ⟨b, xs, ds, rfl, hh3.mono S36, fun d hd => (g.words1 d hd).2, g2.2, _, rfl, ?_⟩⟩;rw [decide_eq_true (by omega)];exact q _ (S1.trans (S2.trans S36))
end
section
variable {α : Type}
def xv (r : List α) (ws : List α) : List (List α) := ws.map fun w => r ++ [w]
def xk (rs : List (List α)) (ws : List α) : List (List α) := (rs.map fun r => xv r ws).flatten
def zz (wss : List (List α)) : List (List α) := wss.foldl xk [[]]
theorem zcz (wss : List (List α)) (ws : List α) : zz (wss ++ [ws]) = xk (zz wss) ws := by simp [zz]
theorem gr (r : List α) (rs : List (List α)) (ws : List α) : xk (r :: rs) ws = xv r ws ++ xk rs ws := by simp [xk]
theorem g9 (rs : List (List α)) (r : List α) (ws : List α) : xk (rs ++ [r]) ws = xk rs ws ++ xv r ws := by simp [xk]
theorem v6 (r : List α) (ws : List α) : (xv r ws).length = ws.length := by simp [xv]
theorem qe (ws : List α) : ∀ rs : List (List α), (xk rs ws).length = rs.length * ws.length
  | [] => by simp [xk]
  | r :: rs => by rw [gr, Zo, v6, qe ws rs, ZL, Nat.succ_mul, Nat.add_comm]
theorem ww {wss : List (List α)} {j : Nat} {ws : List α} (h : wss[j]? = some ws) : zz (wss.take (j + 1)) = xk (zz (wss.take j)) ws := by
  rw [Zq, h];exact zcz _ _
theorem e8 (wss : List (List α)) : (zz wss).length = (wss.map List.length).prod := by
  have : ∀ n, n <= wss.length -> (zz (wss.take n)).length = ((wss.take n).map List.length).prod := by
    intro n
    induction n with
    | zero => intro _; rfl
    | succ n ih =>
      intro h;have e : wss[n]? = some wss[n] := Zb (by omega);rw [ww e, qe, ih (by omega), Zq, e, Zn, List.prod_append];simp
  have := this wss.length (Zm _)
  rwa [Zt] at this
theorem jf {rs : List (List α)} {ws : List α} {row : List α} (h : row ∈ xk rs ws) : ∃ r w, r ∈ rs /\ w ∈ ws /\ row = r ++ [w] := by
  simp only [xk, xv, YG, Zp] at h;obtain ⟨l, ⟨r, hr, rfl⟩, h⟩ := h;obtain ⟨w, hw, rfl⟩ := Zp.mp h;exact ⟨r, w, hr, hw, rfl⟩
theorem j4 (wss : List (List α)) : ∀ n, n <= wss.length -> ∀ row ∈ zz (wss.take n), row.length = n := by
  intro n
  induction n with
  | zero => intro _ row h; simp [zz] at h; simp [h]
  | succ n ih =>
    intro h row hr;have e : wss[n]? = some wss[n] := Zb (by omega);rw [ww e] at hr;obtain ⟨r, w, h1, _, rfl⟩ := jf hr;simp [ih (by omega) r h1]
end
structure TupsAt (H : Hp) (as : List Addr) (rs : List (List Str)) : Prop where
  len : as.length = rs.length
  at' : ∀ (i : Nat) (a : Addr) (r : List Str), as[i]? = some a -> rs[i]? = some r -> H a = some (.tup (r.map V.str))
theorem TupsAt.nil {H : Hp} : TupsAt H [] [] := ⟨rfl, fun i a r e => by simp at e⟩
theorem TupsAt.mono {H H' : Hp} {as : List Addr} {rs : List (List Str)} (S : Same H H') (h : TupsAt H as rs) : TupsAt H' as rs := ⟨h.len, fun i a r e1 e2 => S _ _ (h.at' i a r e1 e2)⟩
theorem TupsAt.append {H : Hp} {as bs : List Addr} {rs qs : List (List Str)} (h1 : TupsAt H as rs) (h2 : TupsAt H bs qs) : TupsAt H (as ++ bs) (rs ++ qs) := by
  refine ⟨by simp [h1.len, h2.len], fun i a r e1 e2 => ?_⟩
  by_cases hi : i < as.length
  . rw [Zg hi] at e1
    rw [Zg (by rw [<- h1.len]; exact hi)] at e2;exact h1.at' i a r e1 e2
  . rw [Zf (ZD.mp hi)] at e1
    rw [Zf (by rw [<- h1.len]; exact ZD.mp hi)] at e2;rw [h1.len] at e1;exact h2.at' _ a r e1 e2
theorem TupsAt.one {H : Hp} {a : Addr} {r : List Str} (h : H a = some (.tup (r.map V.str))) : TupsAt H [a] [r] := ⟨rfl, fun i b q e1 e2 => by
  cases i with
  | zero =>
    simp at e1 e2;subst e1 e2;exact h
  | succ i => simp at e1⟩
theorem TupsAt.past {H : Hp} {p : Addr} {xs ys : List V} {as : List Addr} {rs : List (List Str)} (hp : H p = some (.lst xs)) (h : TupsAt H as rs) : TupsAt (upd H p (.lst ys)) as rs :=
  ⟨h.len, fun i a r e1 e2 => by
    have := h.at' i a r e1 e2;rw [zr (fun e => by rw [e, hp] at this; cases this)]
    exact this⟩
structure RwsAt (H : Hp) (l : Addr) (as : List Addr) (rs : List (List Str)) : Prop where
  lst : H l = some (.lst (as.map V.ref))
  tups : TupsAt H as rs
theorem RwsAt.mono {H H' : Hp} {l : Addr} {as : List Addr} {rs : List (List Str)} (S : Same H H') (h : RwsAt H l as rs) : RwsAt H' l as rs := ⟨S _ _ h.lst, h.tups.mono S⟩
structure KHand (K : Fg) (H : Hp) (t : Addr) (d : HD) (w g : Addr) (gs : List Addr) : Prop where
  tup : SqT K H t [.str d.name, .ref w, .ref g]
  words : SqT K H w (d.words.map V.str)
  grid : SqT K H g (gs.map V.ref)
  len : gs.length = d.worths.length
  row : ∀ (i : Nat) (r : Addr) (ns : List Int), gs[i]? = some r -> d.worths[i]? = some ns -> SqT K H r (ns.map V.int)
def KHands (K : Fg) (H : Hp) (hs : List Addr) (ds : List HD) : Prop := hs.length = ds.length /\ ∀ (i : Nat) (t : Addr) (d : HD), hs[i]? = some t -> ds[i]? = some d -> ∃ w g gs, KHand K H t d w g gs
structure zd4 (K : Fg) (H : Hp) (p o h : Addr) (hs : List Addr) (outs : List Str) (ds : List HD) : Prop where
  tup : SqT K H p [.ref o, .ref h]
  outs : SqT K H o (outs.map V.str)
  hands : SqT K H h (hs.map V.ref)
  hand : KHands K H hs ds
theorem KHand.mono {K : Fg} {H H' : Hp} {t : Addr} {d : HD} {w g : Addr} {gs : List Addr} (S : Same H H') (h : KHand K H t d w g gs) : KHand K H' t d w g gs :=
  ⟨S.seqT h.tup, S.seqT h.words, S.seqT h.grid, h.len, fun i r ns e1 e2 => S.seqT (h.row i r ns e1 e2)⟩
theorem KHands.mono {K : Fg} {H H' : Hp} {hs : List Addr} {ds : List HD} (S : Same H H') (h : KHands K H hs ds) : KHands K H' hs ds :=
  ⟨h.1, fun i t d e1 e2 => by
    obtain ⟨w, g, gs, q⟩ := h.2 i t d e1 e2
    exact ⟨w, g, gs, q.mono S⟩⟩
def wp (K : Fg) (j : Nat) : Sp := fun vs H Q _ => ∃ (t : Addr) (us : List V) (v : V), vs = [.ref t] /\ SqT K H t us /\ us[j]? = some v /\ Q v H
def zey (K : Fg) : Sp := fun vs H Q _ => ∃ (l wd : Addr) (as : List Addr) (rs : List (List Str)) (ws : List Str), vs = [.ref l, .ref wd] /\ RwsAt H l as rs /\ SqT K H wd (ws.map V.str) /\ rs.length <= 4096 /\ ws.length <= 8 /\ (∀ r ∈ rs, r.length <= 8) /\
  ∀ H' l' as', Same H H' -> H l' = none -> RwsAt H' l' as' (xk rs ws) -> Q (.ref l') H'
def PvEach (l wd p : Addr) (rs : List (List Str)) (ws : List Str) (H : Hp) (i : Nat) (σ : L2.St) (H' : Hp) : Prop := ∃ (as' : List Addr) (v : Option V), H' p = some (.lst (as'.map V.ref)) /\ TupsAt H' as' (xk (rs.take i) ws) /\ Same H H' /\ σ = [some (.ref l), some (.ref wd), some (.ref p), v]
def zd1 (r ws : List Str) (H : Hp) (i : Nat) (ys : List V) (H' : Hp) : Prop := ∃ as' : List Addr, ys = as'.map V.ref /\ TupsAt H' as' (xv r (ws.take i)) /\ Same H H'
def zer (K : Fg) : Sp := fun vs H Q _ => ∃ (h : Addr) (hs : List Addr) (ds : List HD), vs = [.ref h] /\ SqT K H h (hs.map V.ref) /\ KHands K H hs ds /\ ds.length <= 4 /\ (∀ d ∈ ds, d.words.length <= 8) /\
  ∀ H' l as, Same H H' -> H l = none -> RwsAt H' l as (zz (ds.map HD.words)) -> Q (.ref l) H'
def PvOver (h : Addr) (ds : List HD) (H : Hp) (i : Nat) (σ : L2.St) (H' : Hp) : Prop := ∃ (l : Addr) (as : List Addr) (v : Option V), H l = none /\ RwsAt H' l as (zz ((ds.map HD.words).take i)) /\ Same H H' /\ σ = [some (.ref h), some (.ref l), v]
def je (K : Fg) : Sp := fun vs H Q _ => ∃ (p : Addr) (xs : List V) (k : Nat), vs = [.ref p, .int k] /\ SqT K H p xs /\ k < xs.length /\ xs.length <= 64 /\ ∀ H' p', Same H H' -> H' p' = some (.tup (xs.eraseIdx k)) -> Q (.ref p') H'
def i8 (K : Fg) : Sp := fun vs H Q _ => ∃ (p o h : Addr) (hs : List Addr) (outs : List Str) (ds : List HD) (k : Nat), vs = [.ref p, .int k] /\ zd4 K H p o h hs outs ds /\ k < ds.length /\ ds.length <= 4 /\ (∀ d ∈ ds, d.words.length <= 8) /\
  ∀ H' l as, Same H H' -> H l = none -> RwsAt H' l as (zz ((ds.eraseIdx k).map HD.words)) -> Q (.ref l) H'
theorem sd {wss : List (List Str)} (h4 : wss.length <= 4) (h8 : ∀ ws ∈ wss, ws.length <= 8) (n : Nat) (hn : n <= wss.length) : (zz (wss.take n)).length <= 4096 := by
  have : ∀ m, m <= wss.length -> (zz (wss.take m)).length <= 8 ^ m := by
    intro m
    induction m with
    | zero => intro _; exact Zm _
    | succ m ih =>
      intro h;have e : wss[m]? = some wss[m] := Zb (by omega);rw [ww e, qe, Nat.pow_succ];exact YD (ih (by omega)) (h8 _ (Zl (by omega)))
  exact Zd (this n hn) (Nat.pow_le_pow_right (by decide) (show n <= 4 by omega))
section
variable {P : Program} {w : World} {K : Fg} {mg : Str -> Option Value} {base : Heap}
theorem zda (D : zf K mg "hands_of" qr ["house"]) : FnAt P w K mg base "hands_of" 1 ["house"] (wp K 1) := by
  refine FnAt.of D za5 (fun vs H Q E h => ?_) (fun f cdv A outer s H vs Q E hr h => ?_)
  . obtain ⟨t, us, v, rfl, _⟩ := h
    rfl
  . obtain ⟨t, us, v, rfl, ht, e, q⟩ := h
    refine ⟨_, (@zh _ _ _ (@zm _ _ _ _ (@zw _ _ _ _ _ _ _ yn (pv 0) (@zg _ _ _ _) (fun _ _ => rfl)))), ?_⟩;rw [show zt ["house"] [V.ref t] = [some (V.ref t)] from rfl];simp only [zc, zd, ↓reduceIte];exact ⟨_, ht, _, z0 (j := 1) e, q⟩
theorem gh (D : zf K mg "words_of_hand" wc ["hand"]) : FnAt P w K mg base "words_of_hand" 1 ["hand"] (wp K 1) := by
  refine FnAt.of D na (fun vs H Q E h => ?_) (fun f cdv A outer s H vs Q E hr h => ?_)
  . obtain ⟨t, us, v, rfl, _⟩ := h
    rfl
  . obtain ⟨t, us, v, rfl, ht, e, q⟩ := h
    refine ⟨_, (@zh _ _ _ (@zm _ _ _ _ (@zw _ _ _ _ _ _ _ yn (pv 0) (@zg _ _ _ _) (fun _ _ => rfl)))), ?_⟩;rw [show zt ["hand"] [V.ref t] = [some (V.ref t)] from rfl];simp only [zc, zd, ↓reduceIte];exact ⟨_, ht, _, z0 (j := 1) e, q⟩
theorem mt (B : Bt mg) (D : zf K mg "with_each" sw ["rows", "words"]) : FnAt P w K mg base "with_each" 1 ["rows", "words"] (zey K) := by
  refine FnAt.of D sc_with_each (fun vs H Q E h => ?_) (fun f cdv A outer s H vs Q E hr h => ?_)
  . obtain ⟨l, wd, as, rs, ws, rfl, _⟩ := h
    rfl
  . obtain ⟨l, wd, as, rs, ws, rfl, hR, hW, b1, b2, b3, q⟩ := h
    refine ⟨_, (@zi _ _ _ _ _ (zy (i := 2) sc_with_each.nd rfl (Or.inl rfl) (@y8 _ _ _ _ (@zb _))) (@zi _ _ _ _ _ (yw PassesOwn.never rfl (@yh _ _ _ _ (pv 0)) (zo (i := 3) sc_with_each.nd rfl (Or.inr rfl)) (@zh _ _ _ (wn (t8 PySem.F.plainAttrs_list PySem.F.slot_list_extend PySem.F.type_list_extend dq (pv 2) (za (yk ["word"] ["rows", "words", "longer", "row"] rfl (@gw _ _ _ _ (pv 1)) (fun _ => (zo (i := 0) (show (["word", "rows", "words", "longer", "row"] : List Str).Nodup by decide +kernel) rfl (Or.inl rfl))) (fun _ => (@yc _)) (fun _ => (@zl _ _ _ _ _ _ _ _ uq (pv 4) (@y9 _ _ _ _ _ (za (pv 0) (@zb _))))) rfl (by decide +kernel) rfl rfl) (@zb _)))))) (@zh _ _ _ (@zm _ _ _ _ (pv 2))))), ?_⟩;rw [show zt ["rows", "words", "longer", "row"] [V.ref l, V.ref wd] = [some (V.ref l), some (V.ref wd), none, none] from rfl];simp only [zc, zd, ↓reduceIte];refine ⟨by decide, fun p hp => ?_⟩;have S1 : Same H (upd H p (.lst [])) := Same.upd (Same.refl _) hp;refine ⟨⟨_, .of (S1 _ _ hR.lst)⟩, ?_⟩;refine wf (xs := as.map V.ref) (PvEach l wd p rs ws H) ⟨[], _, ze, TupsAt.nil, S1, rfl⟩ ?_ ?_ ?_
    . rintro i σ H' hi ⟨as', v, h1, h2, S, rfl⟩
      exact .of (S _ _ hR.lst)
    . rintro i x σ H' hx ⟨as', v, h1, h2, S, rfl⟩
      obtain ⟨a, ha, rfl⟩ := yy hx;have hi : i < rs.length := by have := (Zc.mp ha).1; have := hR.tups.len; omega
      have er : rs[i]? = some rs[i] := Zb hi;have hrow := hR.tups.at' i a _ ha er;have hr8 := b3 _ (Zl hi);simp only [zc, zd, ↓reduceIte];refine ⟨.inl ⟨rfl, _, .of h1⟩, ⟨_, S.seqT hW⟩, fun d => ?_⟩;refine im (xs := ws.map V.str) (zd1 rs[i] ws H') ⟨[], rfl, TupsAt.nil, Same.refl _⟩ ?_ ?_ ?_
      . rintro j ys H2 hj ⟨bs, rfl, t2, S2⟩
        refine ⟨?_, S2.seqT (S.seqT hW)⟩;rw [Za, t2.len, v6, Zj];exact Zd (ZB _ _) (Zd b2 (by decide))
      . rintro j y ys H2 hy ⟨bs, rfl, t2, S2⟩
        obtain ⟨z, hz, rfl⟩ := yy hy;simp only [zc, zd, ↓reduceIte];refine ⟨by decide, fun c hc => ?_⟩;have S3 : Same H2 (upd H2 c (.tup [V.str z])) := Same.upd (Same.refl _) hc;refine ⟨_, (S.trans (S2.trans S3)) _ _ hrow, _, ze, ?_, fun H4 e S4 he => ?_⟩
        . rw [Za]
          exact Zd (show _ <= 9 by simp; omega) (by decide)
        . refine ⟨bs ++ [e], by simp, ?_, S2.trans (S3.trans S4)⟩
          rw [Zq, hz]
          show TupsAt H4 (bs ++ [e]) (xv _ (ws.take j ++ [z]))
          rw [xv, Zn];exact (t2.mono (S3.trans S4)).append (TupsAt.one (by rw [he]; simp))
      . rintro ys H2 ⟨bs, rfl, t2, S2⟩ l2 hl2
        rw [Za, Zt] at t2;have S3 : Same H2 (upd H2 l2 (.lst (bs.map V.ref))) := Same.upd (Same.refl _) hl2;have h3 : upd H2 l2 (.lst (bs.map V.ref)) l2 = some (.lst (bs.map V.ref)) := ze;generalize upd H2 l2 (.lst (bs.map V.ref)) = H3 at *;have hp3 := (S2.trans S3) _ _ h1;refine ⟨_, hp3, _, h3, ?_, ?_⟩
        . rw [Za, Za, h2.len, t2.len, v6, qe, Zj]
          have : min i rs.length * ws.length <= 4096 * 8 := YD (by omega) b2;exact Zd (show _ <= 4096 * 8 + 8 by omega) (by decide)
        . refine ⟨as' ++ bs, _, by rw [ze, Zn], ?_, Same.upd (S.trans (S2.trans S3)) hp, rfl⟩
          rw [Zq, er]
          show TupsAt _ _ (xk (rs.take i ++ [rs[i]]) ws)
          rw [g9];exact ((h2.mono (S2.trans S3)).append (t2.mono S3)).past hp3
    . rintro σ H' ⟨as', v, h1, h2, S, rfl⟩
      simp only [zc, zd, ↓reduceIte];rw [Za, hR.tups.len, Zt] at h2;exact q H' p as' S hp ⟨h1, h2⟩
theorem mx (B : Bt mg) (mt : FnAt P w K mg base "with_each" 1 ["rows", "words"] (zey K)) (yt : FnAt P w K mg base "words_of_hand" 1 ["hand"] (wp K 1)) (D : zf K mg "rows_over" rj ["hands"]) : FnAt P w K mg base "rows_over" 2 ["hands"] (zer K) := by
  refine FnAt.of D sc_rows_over (fun vs H Q E h => ?_) (fun f cdv A outer s H vs Q E hr h => ?_)
  . obtain ⟨b, hs, ds, rfl, _⟩ := h
    rfl
  . obtain ⟨b, hs, ds, rfl, hH, hK, h4, h8, q⟩ := h
    refine ⟨_, (@zi _ _ _ _ _ (@zy _ _ 1 _ _ _ _ sc_rows_over.nd rfl (Or.inl rfl) (@y8 _ _ _ _ (@za _ _ _ _ _ (@y9 _ _ _ _ _ (@zb _)) (@zb _) (z8 nofun))) rfl (Or.inl rfl)) (@zi _ _ _ _ _ (yw PassesOwn.never rfl (@gw _ _ _ _ (pv 0)) (zo (i := 2) sc_rows_over.nd rfl (Or.inl rfl)) (@zh _ _ _ (zy (i := 1) sc_rows_over.nd rfl (Or.inl rfl) (zj mt (hr.mono (by decide)) rfl (za (pv 1) (za (zj yt (hr.mono (by decide)) rfl (za (pv 2) (@zb _))) (@zb _))))))) (@zh _ _ _ (@zm _ _ _ _ (pv 1))))), ?_⟩;rw [show zt ["hands", "rows", "hand"] [V.ref b] = [some (V.ref b), none, none] from rfl];simp only [zc, zd, ↓reduceIte];refine ⟨by decide, fun c hc => ⟨by decide, fun p hp => ?_⟩⟩;have S1 : Same H (upd H c (.tup [])) := Same.upd (Same.refl _) hc;have h1 : upd H c (.tup []) c = some (.tup []) := ze;generalize upd H c (.tup []) = H1 at *;have S2 : Same H1 (upd H1 p (.lst [V.ref c])) := Same.upd (Same.refl _) hp;have h2 : upd H1 p (.lst [V.ref c]) p = some (.lst [V.ref c]) := ze;generalize upd H1 p (.lst [V.ref c]) = H2 at *;have S := S1.trans S2;refine ⟨⟨_, S.seqT hH⟩, ?_⟩;refine zgt (xs := hs.map V.ref) (PvOver b ds H) ⟨p, [c], _, S1.free hp, ⟨h2, TupsAt.one (S2 _ _ h1)⟩, S, rfl⟩ ?_ ?_ ?_
    . rintro i σ H' hi ⟨l, as, v, hl, hR, S', rfl⟩
      exact S'.seqT hH
    . rintro i x σ H' hx ⟨l, as, v, hl, hR, S', rfl⟩
      obtain ⟨t, ht, rfl⟩ := yy hx;have hi : i < ds.length := by have := (Zc.mp ht).1; have := hK.1; omega
      have ed : ds[i]? = some ds[i] := Zb hi;obtain ⟨wd, g, gs, hd⟩ := (hK.mono S').2 i t _ ht ed;simp only [zc, zd, ↓reduceIte];refine ⟨t, _, _, rfl, hd.tup, rfl, ?_⟩;have ew : (ds.map HD.words)[i]? = some ds[i].words := by rw [Ze, ed]; rfl
      have hb : ∀ r ∈ zz ((ds.map HD.words).take i), r.length <= 8 := fun r hr => by
        have := j4 (ds.map HD.words) i (by rw [Za]; omega) r hr;omega
      refine ⟨l, wd, as, _, ds[i].words, rfl, hR, hd.words, sd (by rw [Za]; exact h4) (fun ws hws => ?_) i (by rw [Za]; omega), h8 _ (Zl hi), hb, fun H3 l3 as3 S3 hl3 R3 => ?_⟩
      . obtain ⟨d, hd, rfl⟩ := Zp.mp hws
        exact h8 d hd
      . simp only [zc, zd, ↓reduceIte]
        refine ⟨l3, as3, _, S'.free hl3, ?_, S'.trans S3, rfl⟩;rw [ww ew];exact R3
    . rintro σ H' ⟨l, as, v, hl, hR, S', rfl⟩
      simp only [zc, zd, ↓reduceIte];rw [Za, hK.1, ZG (by rw [Za]; omega)] at hR;exact q H' l as S' hl hR
theorem ul (B : Bt mg) (D : zf K mg "without" nt ["things", "k"]) : FnAt P w K mg base "without" 1 ["things", "k"] (je K) := by
  refine FnAt.of D zcv (fun vs H Q E h => ?_) (fun f cdv A outer s H vs Q E hr h => ?_)
  . obtain ⟨p, xs, k, rfl, _⟩ := h
    rfl
  . obtain ⟨p, xs, k, rfl, hp, hk, h64, q⟩ := h
    refine ⟨_, (@zh _ _ _ (@zm _ _ _ _ (@zl _ _ _ _ _ _ _ _ uq (@wv _ _ _ _ _ _ _ _ _ _ ad (pv 0) (@vv _) (@vc _ _ _ (pv 1))) (@wv _ _ _ _ _ _ _ _ _ _ ad (pv 0) (@vc _ _ _ (@zl _ _ _ _ _ _ _ _ yp (pv 1) (@zg _ _ _ _))) (@vv _))))), ?_⟩;rw [show zt ["things", "k"] [V.ref p, V.int k] = [some (V.ref p), some (V.int k)] from rfl];simp only [zc, zd, ↓reduceIte];refine ⟨_, hp, ?_, fun c hc => ?_⟩
    . rw [HT.sIx_nat]
      omega
    . rw [j0 (YR hk)]
      have S1 : Same H (upd H c (.tup (xs.take k))) := Same.upd (Same.refl _) hc;have h1 : upd H c (.tup (xs.take k)) c = some (.tup (xs.take k)) := ze;generalize upd H c (.tup (xs.take k)) = H1 at *;refine ⟨_, S1.seqT hp, ?_, fun e he => ?_⟩
      . rw [show (k : Int) + 1 = ((k + 1 : Nat) : Int) by omega, HT.sIx_nat]
        omega
      . rw [show (k : Int) + 1 = ((k + 1 : Nat) : Int) by omega, ma hk]
        have S2 : Same H1 (upd H1 e (.tup (xs.drop (k + 1)))) := Same.upd (Same.refl _) he;refine ⟨_, S2 _ _ h1, _, ze, ?_, fun H3 r S3 hr => ?_⟩
        . rw [Zj, Ye]
          exact Zd (show _ <= 64 by omega) (by decide)
        . refine q H3 r (S1.trans (S2.trans S3)) ?_
          rw [hr, Yd]
theorem my (B : Bt mg) (mx : FnAt P w K mg base "rows_over" 2 ["hands"] (zer K)) (f_hands_of : FnAt P w K mg base "hands_of" 1 ["house"] (wp K 1)) (ul : FnAt P w K mg base "without" 1 ["things", "k"] (je K)) (D : zf K mg "others_of" sv ["house", "k"]) : FnAt P w K mg base "others_of" 3 ["house", "k"] (i8 K) := by
  refine FnAt.of D zap (fun vs H Q E h => ?_) (fun f cdv A outer s H vs Q E hr h => ?_)
  . obtain ⟨p, o, a, hs, outs, ds, k, rfl, _⟩ := h
    rfl
  . obtain ⟨p, o, a, hs, outs, ds, k, rfl, hH, hk, h4, h8, q⟩ := h
    refine ⟨_, (@zh _ _ _ (@zm _ _ _ _ (zj mx (hr.mono (by decide)) rfl (za (zj ul (hr.mono (by decide)) rfl (za (zj f_hands_of (hr.mono (by decide)) rfl (za (pv 0) (@zb _))) (za (pv 1) (@zb _)))) (@zb _))))), ?_⟩;rw [show zt ["house", "k"] [V.ref p, V.int k] = [some (V.ref p), some (V.int k)] from rfl];simp only [zc, zd, ↓reduceIte];have hl := hH.hand.1;refine ⟨p, _, _, rfl, hH.tup, rfl, a, _, k, rfl, hH.hands, by rw [Za]; omega, by rw [Za]; omega, fun H1 b S1 hb => ?_⟩
    have e : (hs.map V.ref).eraseIdx k = (hs.eraseIdx k).map V.ref := by
      rw [Yd, Yd, Zn, YO, List.map_drop]
    rw [e] at hb;refine ⟨b, hs.eraseIdx k, ds.eraseIdx k, rfl, .of hb, ⟨?_, fun i t d e1 e2 => ?_⟩, ?_, fun d hd => h8 d (YB hd), fun H2 l as S2 hl R2 => q H2 l as (S1.trans S2) (S1.free hl) R2⟩
    . rw [List.length_eraseIdx, List.length_eraseIdx, hl]
    . rw [Yc] at e1 e2
      by_cases hik : i < k
      . rw [if_pos hik] at e1 e2
        exact (hH.hand.mono S1).2 i t d e1 e2
      . rw [if_neg hik] at e1 e2
        exact (hH.hand.mono S1).2 (i + 1) t d e1 e2
    . exact Zd (List.length_eraseIdx_le _ _) h4
end
structure HHand (H : Hp) (t : Addr) (d : HD) (w g : Addr) (gs : List Addr) : Prop where
  tup : H t = some (.tup [.str d.name, .ref w, .ref g])
  words : H w = some (.tup (d.words.map V.str))
  grid : H g = some (.tup (gs.map V.ref))
  len : gs.length = d.worths.length
  row : ∀ (i : Nat) (r : Addr) (ns : List Int), gs[i]? = some r -> d.worths[i]? = some ns -> H r = some (.tup (ns.map V.int))
theorem HHand.mono {H H' : Hp} {t : Addr} {d : HD} {w g : Addr} {gs : List Addr} (S : Same H H') (h : HHand H t d w g gs) : HHand H' t d w g gs :=
  ⟨S _ _ h.tup, S _ _ h.words, S _ _ h.grid, h.len, fun i r ns e1 e2 => S _ _ (h.row i r ns e1 e2)⟩
theorem HHand.k {K : Fg} {H : Hp} {t : Addr} {d : HD} {w g : Addr} {gs : List Addr} (h : HHand H t d w g gs) : KHand K H t d w g gs :=
  ⟨.of h.tup, .of h.words, .of h.grid, h.len, fun i r ns e1 e2 => .of (h.row i r ns e1 e2)⟩
def HHands (H : Hp) (hs : List Addr) (ds : List HD) : Prop := hs.length = ds.length /\ ∀ (i : Nat) (t : Addr) (d : HD), hs[i]? = some t -> ds[i]? = some d -> ∃ w g gs, HHand H t d w g gs
theorem HHands.mono {H H' : Hp} {hs : List Addr} {ds : List HD} (S : Same H H') (h : HHands H hs ds) : HHands H' hs ds :=
  ⟨h.1, fun i t d e1 e2 => by
    obtain ⟨w, g, gs, q⟩ := h.2 i t d e1 e2
    exact ⟨w, g, gs, q.mono S⟩⟩
theorem HHands.snoc {H : Hp} {hs : List Addr} {ds : List HD} {t : Addr} {d : HD} {w g : Addr} {gs : List Addr} (h : HHands H hs ds) (q : HHand H t d w g gs) : HHands H (hs ++ [t]) (ds ++ [d]) := by
  refine ⟨by simp [h.1], fun i a e e1 e2 => ?_⟩
  by_cases hi : i < hs.length
  . rw [Zg hi] at e1
    rw [Zg (by rw [<- h.1]; exact hi)] at e2;exact h.2 i a e e1 e2
  . rw [Zf (ZD.mp hi)] at e1
    rw [Zf (by rw [<- h.1]; exact ZD.mp hi)] at e2
    have h0 : i - hs.length = 0 := by
      have := (Zc.mp e1).1;simp at this;omega
    rw [h0] at e1;rw [<- h.1, h0] at e2;simp at e1 e2;subst e1 e2;exact ⟨w, g, gs, q⟩
structure HHouse (H : Hp) (p o h : Addr) (hs : List Addr) (outs : List Str) (ds : List HD) : Prop where
  tup : H p = some (.tup [.ref o, .ref h])
  outs : H o = some (.tup (outs.map V.str))
  hands : H h = some (.tup (hs.map V.ref))
  hand : HHands H hs ds
theorem HHouse.mono {H H' : Hp} {p o h : Addr} {hs : List Addr} {outs : List Str} {ds : List HD} (S : Same H H') (q : HHouse H p o h hs outs ds) : HHouse H' p o h hs outs ds :=
  ⟨S _ _ q.tup, S _ _ q.outs, S _ _ q.hands, q.hand.mono S⟩
theorem HHouse.k {K : Fg} {H : Hp} {p o h : Addr} {hs : List Addr} {outs : List Str} {ds : List HD} (q : HHouse H p o h hs outs ds) : zd4 K H p o h hs outs ds :=
  ⟨.of q.tup, .of q.outs, .of q.hands, q.hand.1, fun i t d e1 e2 => by
    obtain ⟨w, g, gs, z⟩ := q.hand.2 i t d e1 e2
    exact ⟨w, g, gs, z.k⟩⟩
structure IntTs (H : Hp) (ls : List Addr) (ps : List (List Int)) : Prop where
  len : ls.length = ps.length
  at' : ∀ (i : Nat) (l : Addr) (p : List Int), ls[i]? = some l -> ps[i]? = some p -> H l = some (.tup (p.map V.int))
theorem IntTs.mono {H H' : Hp} {ls : List Addr} {ps : List (List Int)} (S : Same H H') (h : IntTs H ls ps) : IntTs H' ls ps := ⟨h.len, fun i l p e1 e2 => S _ _ (h.at' i l p e1 e2)⟩
theorem IntTs.snoc {H : Hp} {ls : List Addr} {ps : List (List Int)} {l : Addr} {p : List Int} (h : IntTs H ls ps) (hl : H l = some (.tup (p.map V.int))) : IntTs H (ls ++ [l]) (ps ++ [p]) := by
  refine ⟨by simp [h.len], fun i a q e1 e2 => ?_⟩
  by_cases hi : i < ls.length
  . rw [Zg hi] at e1
    rw [Zg (by rw [<- h.len]; exact hi)] at e2;exact h.at' i a q e1 e2
  . rw [Zf (ZD.mp hi)] at e1
    rw [Zf (by rw [<- h.len]; exact ZD.mp hi)] at e2
    have h0 : i - ls.length = 0 := by
      have := (Zc.mp e1).1;simp at this;omega
    rw [h0] at e1;rw [<- h.len, h0] at e2;simp at e1 e2;subst e1 e2;exact hl
def zfr : Sp := fun vs H Q _ => ∃ (x : HX) (d : HD), vs = [.ref x.t] /\ HandAt H x d /\ d.worths.length <= 8 /\ ∀ H' t w g gs, Same H H' -> HHand H' t d w g gs -> Q (.ref t) H'
def zas : Sp := fun vs H Q _ => ∃ (o b : Addr) (outs : List Str) (xs : List HX) (ds : List HD), vs = [.ref o, .ref b] /\ H o = some (.lst (outs.map V.str)) /\ HandsL H b xs ds /\ GoodHouse outs ds /\ ∀ H' p o' h hs, Same H H' -> HHouse H' p o' h hs outs ds -> Q (.ref p) H'
def PvEH (rows : List (List Int)) (H1 : Hp) (i : Nat) (ys : List V) (H' : Hp) : Prop := Same H1 H' /\ ∃ gs : List Addr, ys = gs.map V.ref /\ IntTs H' gs (rows.take i)
def PvDH (ds : List HD) (H1 : Hp) (i : Nat) (ys : List V) (H' : Hp) : Prop := Same H1 H' /\ ∃ hs : List Addr, ys = hs.map V.ref /\ HHands H' hs (ds.take i)
section
variable {P : Program} {w : World} {K : Fg} {mg : Str -> Option Value} {base : Heap} {a : Ad}
theorem zbg (B : Bt mg) (qg : FnAt P w K mg base "name_of" 1 ["hand"] (nu fun _ d => .str d.name)) (yt : FnAt P w K mg base "words_of_hand" 1 ["hand"] (nu fun x _ => .ref x.w)) (xy : FnAt P w K mg base "worths_of_hand" 1 ["hand"] (nu fun x _ => .ref x.g))
    (D : zf K mg "kept_hand" sy ["hand"]) : FnAt P w K mg base "kept_hand" 2 ["hand"] zfr := by
  refine FnAt.of D sc_kept_hand (fun vs H Q E h => ?_) (fun f cdv A outer s H vs Q E hr h => ?_)
  . obtain ⟨x, d, rfl, _⟩ := h
    rfl
  . obtain ⟨x, d, rfl, hx, h8, q⟩ := h
    refine ⟨_, (@zi _ _ _ _ _ (zy (i := 1) sc_kept_hand.nd rfl (Or.inl rfl) (wo r6 rfl B.tuple sj (za (yk ["row"] ["hand", "worths"] rfl (@yh _ _ _ _ (zj xy (hr.mono (by decide)) rfl (za (pv 0) (@zb _)))) (fun _ => (zo (i := 0) (show (["row", "hand", "worths"] : List Str).Nodup by decide +kernel) rfl (Or.inl rfl))) (fun _ => (@yc _)) (fun _ => (wo r6 rfl B.tuple sj (za (pv 0) (@zb _)))) rfl (by decide +kernel) rfl rfl) (@zb _)))) (@zh _ _ _ (@zm _ _ _ _ (@y9 _ _ _ _ _ (za (zj qg (hr.mono (by decide)) rfl (za (pv 0) (@zb _))) (za (wo r6 rfl B.tuple sj (za (zj yt (hr.mono (by decide)) rfl (za (pv 0) (@zb _))) (@zb _))) (za (pv 1) (@zb _)))))))), ?_⟩;rw [show zt ["hand", "worths"] [V.ref x.t] = [some (V.ref x.t), none] from rfl];simp only [zc, zd, ↓reduceIte];refine ⟨x, d, rfl, hx, ?_⟩;simp only [zc, zd, ↓reduceIte];refine ⟨⟨_, .of hx.grid⟩, fun dd => ?_⟩;refine yo (xs := x.gs.map V.ref) (PvEH d.worths H) ⟨Same.refl _, [], rfl, rfl, fun i l p e => by simp at e⟩ ?_ ?_ ?_
    . rintro i ys H2 hi ⟨S, gs, rfl, ty⟩
      rw [Za, hx.len] at hi;have ly : gs.length = i := by rw [ty.len, Zj]; omega
      exact ⟨by rw [Za, ly]; exact Zd hi (Zd h8 (by decide)), S.seq (.of hx.grid)⟩
    . rintro i y ys H2 hy ⟨S, gs, rfl, ty⟩
      obtain ⟨r, hr', rfl⟩ := yy hy;have hi : i < d.worths.length := by have := (Zc.mp hr').1; have := hx.len; omega
      have e2 : d.worths[i]? = some d.worths[i] := by simp [hi]
      simp only [zc, zd, ↓reduceIte];refine ⟨_, S.seq (.of (hx.row i r _ hr' e2)), fun l hl => ?_⟩;have S3 : Same H2 (upd H2 l (.tup ((d.worths[i]).map V.int))) := Same.upd (Same.refl _) hl;refine ⟨S.trans S3, gs ++ [l], by simp, ?_⟩;rw [Zq, e2];exact (ty.mono S3).snoc ze
    . rintro ys H2 ⟨S, gs, rfl, ty⟩ l hl
      rw [Za, hx.len, Zt] at ty;have S3 : Same H2 (upd H2 l (.lst (gs.map V.ref))) := Same.upd (Same.refl _) hl;refine ⟨_, .of ze, fun l1 hl1 => ?_⟩;generalize upd H2 l (.lst (gs.map V.ref)) = H3 at *;have S4 : Same H3 (upd H3 l1 (.tup (gs.map V.ref))) := Same.upd (Same.refl _) hl1;have h4 : upd H3 l1 (.tup (gs.map V.ref)) l1 = some (.tup (gs.map V.ref)) := ze;generalize upd H3 l1 (.tup (gs.map V.ref)) = H4 at *;have S24 := S.trans (S3.trans S4);refine ⟨x, d, rfl, hx.mono S24, x, d, rfl, hx.mono S24, x.w, rfl, _, .of (hx.mono S24).words, fun l2 hl2 => ⟨by decide, fun p hp => ?_⟩⟩;have S5 : Same H4 (upd H4 l2 (.tup (d.words.map V.str))) := Same.upd (Same.refl _) hl2;have h5 : upd H4 l2 (.tup (d.words.map V.str)) l2 = some (.tup (d.words.map V.str)) := ze;generalize upd H4 l2 (.tup (d.words.map V.str)) = H5 at *;have S6 : Same H5 (upd H5 p (.tup [V.str d.name, V.ref l2, V.ref l1])) := Same.upd (Same.refl _) hp;exact q _ p l2 l1 gs (S24.trans (S5.trans S6)) ⟨ze, S6 _ _ h5, (S5.trans S6) _ _ h4, ty.len, fun i r ns e1 e2 => (S3.trans (S4.trans (S5.trans S6))) _ _ (ty.at' i r ns e1 e2)⟩
theorem zdd (B : Bt mg) (C : Ct K mg a) (ql : FnAt P w K mg base "makes_house" 6 ["outcomes", "hands"] zd0) (f_kept_hand : FnAt P w K mg base "kept_hand" 2 ["hand"] zfr) (D : zf K mg "house_of" pp ["outcomes", "hands"]) : FnAtX P w K mg base "house_of" 7 ["outcomes", "hands"] zas := by
  refine FnAtX.of D zav (fun vs H Q E h => ?_) (fun f cdv A outer s H vs Q E hr h => ?_)
  . obtain ⟨o, b, outs, xs, ds, rfl, _⟩ := h
    rfl
  . obtain ⟨o, b, outs, xs, ds, rfl, ho, hh, g, q⟩ := h
    refine ⟨_, (@zi _ _ _ _ _ (@yz _ _ _ _ _ _ _ _ (@xj _ _ _ _ (xn (zj ql (hr.mono (by decide)) rfl (za (pv 0) (za (pv 1) (@zb _)))))) (@zh _ _ _ (zab rfl C.q_NoHouse.toErr rfl C.m_NoHouse (j3 rfl) (za (@qc _ _ _ _) (@zb _)))) (@yf _)) (@zh _ _ _ (PS.nox (@zm _ _ _ _ (@y9 _ _ _ _ _ (za (wo r6 rfl B.tuple sj (za (pv 0) (@zb _))) (za (wo r6 rfl B.tuple sj (za (yk ["hand"] ["outcomes", "hands"] rfl (@yh _ _ _ _ (pv 1)) (fun _ => (zo (i := 0) (show (["hand", "outcomes", "hands"] : List Str).Nodup by decide +kernel) rfl (Or.inl rfl))) (fun _ => (@yc _)) (fun _ => (zj f_kept_hand (hr.mono (by decide)) rfl (za (pv 0) (@zb _)))) rfl (by decide +kernel) rfl rfl) (@zb _))) (@zb _)))))))), ?_⟩;rw [show zt ["outcomes", "hands"] [V.ref o, V.ref b] = [some (V.ref o), some (V.ref b)] from rfl];simp only [zc, zd, ↓reduceIte];have g2 := g.hands;refine ⟨o, b, outs, xs, ds, rfl, ho, hh, g, fun H1 S1 => ?_⟩;simp only [zc, zd, ↓reduceIte];have hh1 := hh.mono S1;have ho1 := S1 _ _ ho;refine iteF ⟨_, .of ho1, fun l hl => ?_⟩;have S2 : Same H1 (upd H1 l (.tup (outs.map V.str))) := Same.upd (Same.refl _) hl;have h2 : upd H1 l (.tup (outs.map V.str)) l = some (.tup (outs.map V.str)) := ze;generalize upd H1 l (.tup (outs.map V.str)) = H2 at *;have hh2 := hh1.mono S2;refine ⟨⟨_, .of hh2.at'⟩, fun d => ?_⟩;refine yo (xs := xs.map fun x => V.ref x.t) (PvDH ds H2) ⟨Same.refl _, [], rfl, rfl, fun i t d e => by simp at e⟩ ?_ ?_ ?_
    . rintro i ys H3 hi ⟨S, hs, rfl, ty⟩
      rw [Za, hh.len] at hi;have ly : hs.length = i := by rw [ty.1, Zj]; omega
      exact ⟨by rw [Za, ly]; exact Zd hi (Zd g2.2 (by decide)), S.seq (.of hh2.at')⟩
    . rintro i y ys H3 hy ⟨S, hs, rfl, ty⟩
      obtain ⟨x, hx, rfl⟩ := yy hy;have hi : i < ds.length := by have := (Zc.mp hx).1; have := hh.len; omega
      have e2 : ds[i]? = some ds[i] := by simp [hi]
      have hm := Zl hi;have r8 : (ds[i]).worths.length <= 8 := by rw [g.rows _ hm]; exact (g.words1 _ hm).2
      simp only [zc, zd, ↓reduceIte];refine ⟨x, ds[i], rfl, (hh2.hand i x ds[i] hx e2).mono S, r8, fun H4 p wd g' gs S4 tp => ?_⟩;refine ⟨S.trans S4, hs ++ [p], by simp, ?_⟩;rw [Zq, e2];exact (ty.mono S4).snoc tp
    . rintro ys H3 ⟨S, hs, rfl, ty⟩ l1 hl1
      rw [Za, hh.len, Zt] at ty;have S4 : Same H3 (upd H3 l1 (.lst (hs.map V.ref))) := Same.upd (Same.refl _) hl1;refine ⟨_, .of ze, fun l2 hl2 => ⟨by decide, fun p hp => ?_⟩⟩;generalize upd H3 l1 (.lst (hs.map V.ref)) = H4 at *;have S5 : Same H4 (upd H4 l2 (.tup (hs.map V.ref))) := Same.upd (Same.refl _) hl2;have h5 : upd H4 l2 (.tup (hs.map V.ref)) l2 = some (.tup (hs.map V.ref)) := ze;generalize upd H4 l2 (.tup (hs.map V.ref)) = H5 at *;have S6 : Same H5 (upd H5 p (.tup [V.ref l, V.ref l2])) := Same.upd (Same.refl _) hp;have S36 := S4.trans (S5.trans S6);exact q _ p l l2 hs (S1.trans (S2.trans (S.trans S36))) ⟨ze, (S.trans S36) _ _ h2, S6 _ _ h5, ty.mono S36⟩
end
section
variable {α : Type}
def cr (r : List α) (wss : List (List α)) : Prop := r.length = wss.length /\ ∀ (j : Nat) (ws : List α), wss[j]? = some ws -> ∃ w, r[j]? = some w /\ w ∈ ws
theorem zf5 {rs : List (List α)} {ws : List α} {r : List α} {w : α} (h1 : r ∈ rs) (h2 : w ∈ ws) : r ++ [w] ∈ xk rs ws := by
  simp only [xk, xv, YG, Zp];exact ⟨_, ⟨r, h1, rfl⟩, Zp.mpr ⟨w, h2, rfl⟩⟩
theorem zd2 (wss : List (List α)) : ∀ n, n <= wss.length -> ∀ r, r ∈ zz (wss.take n) ↔ cr r (wss.take n) := by
  intro n
  induction n with
  | zero =>
    intro _ r;simp only [List.take_zero, zz, List.foldl_nil, ZC]
    constructor
    . rintro rfl; exact ⟨rfl, fun j ws e => by simp at e⟩
    . intro h; exact List.length_eq_zero_iff.mp h.1
  | succ n ih =>
    intro hn r;have e : wss[n]? = some wss[n] := Zb (by omega);have et : wss.take (n + 1) = wss.take n ++ [wss[n]] := by rw [Zq, e]; rfl
    have ln : (wss.take n).length = n := by rw [Zj]; omega
    rw [ww e]
    constructor
    . intro h
      obtain ⟨q, w, h1, h2, rfl⟩ := jf h;obtain ⟨p1, p2⟩ := (ih (by omega) q).mp h1;rw [ln] at p1;refine ⟨by rw [et, Zo, Zo, p1, ln]; rfl, fun j ws ej => ?_⟩;rw [et] at ej
      by_cases hj : j < n
      . rw [Zg (by omega)] at ej
        obtain ⟨w', a1, a2⟩ := p2 j ws ej;exact ⟨w', by rw [Zg (by omega)]; exact a1, a2⟩
      . rw [Zf (by omega), ln] at ej
        have hj0 : j - n = 0 := by
          have := (Zc.mp ej).1;simp at this;omega
        rw [hj0] at ej;simp at ej;subst ej;exact ⟨w, by rw [Zf (by omega), p1, hj0]; rfl, h2⟩
    . rintro ⟨p1, p2⟩
      rw [et] at p1 p2;have lr : r.length = n + 1 := by rw [p1, Zo, ln]; rfl
      obtain ⟨w, a1, a2⟩ := p2 n wss[n] (by rw [Zf (by omega), ln]; simp)
      have er : r = r.take n ++ [w] := by
        have : r.take (n + 1) = r := ZG (by omega);rw [Zq, a1] at this;exact this.symm
      rw [er];refine zf5 ((ih (by omega) _).mpr ⟨by rw [Zj, ln]; omega, fun j ws ej => ?_⟩) a2;have hj : j < n := by have := (Zc.mp ej).1; omega
      obtain ⟨w', b1, b2⟩ := p2 j ws (by rw [Zg (by omega)]; exact ej);exact ⟨w', by rw [List.getElem?_take, if_pos hj]; exact b1, b2⟩
theorem rowsP_iff {wss : List (List α)} {r : List α} : r ∈ zz wss ↔ cr r wss := by
  have := zd2 wss wss.length (Zm _) r
  rwa [Zt] at this
theorem zaz {rs : List (List α)} {ws : List α} (h1 : rs.Nodup) (h2 : ws.Nodup) : (xk rs ws).Nodup := by
  induction rs with
  | nil => exact YC
  | cons r rs ih =>
    rw [gr];obtain ⟨n1, n2⟩ := ZY.mp h1;refine Yp.mpr ⟨?_, ih n2, fun x hx y hy e => ?_⟩
    . rw [xv]
      refine List.pairwise_map.mpr (List.Pairwise.imp (fun {a b} hab e => hab ?_) h2)
      simpa using e
    . obtain ⟨w, _, rfl⟩ := Zp.mp hx
      obtain ⟨q, w', hq, _, e2⟩ := jf hy;rw [e2] at e;have := (List.append_inj' e rfl).1;exact n1 (this ▸ hq)
theorem j6 {wss : List (List α)} (h : ∀ ws ∈ wss, ws.Nodup) : (zz wss).Nodup := by
  have : ∀ n, n <= wss.length -> (zz (wss.take n)).Nodup := by
    intro n
    induction n with
    | zero => intro _; simp [zz]
    | succ n ih =>
      intro hn;have e : wss[n]? = some wss[n] := Zb (by omega);rw [ww e];exact zaz (ih (by omega)) (h _ (Zl _))
  have := this wss.length (Zm _)
  rwa [Zt] at this
def insP (r : List α) (k : Nat) (w : α) : List α := r.take k ++ w :: r.drop k
theorem zgk {r : List α} {k : Nat} (w : α) (h : k <= r.length) : (insP r k w).length = r.length + 1 := by simp [insP]; omega
theorem zg6 {r : List α} {k : Nat} (w : α) (h : k <= r.length) : (insP r k w)[k]? = some w := by
  rw [insP, Zf (by rw [Zj]; omega), Zj, YV h, Nat.sub_self];rfl
end
theorem ie : ∀ {zs : List Str} {m : Nat} {z : Str}, zs[m]? = some z -> zs.idxOf z <= m
  | [], m, z, h => by simp at h
  | y :: zs, 0, z, h => by
    simp at h;subst h;simp
  | y :: zs, m + 1, z, h => by
    rw [List.idxOf_cons]
    cases y == z with
    | true => exact ZE _
    | false => exact YT (ie (by simpa using h))
theorem zb0 (y z : Str) : eqV (V.str y) (V.str z) = decide (y = z) := rfl
theorem ni {zs : List Str} {z : Str} (h : z ∈ zs) : FirstAt (zs.map V.str) (V.str z) (zs.idxOf z) := by
  have hl := Zz.mpr h;refine ⟨rfl, ?_, ⟨V.str z, ?_, ?_⟩, fun m y hm e => ?_⟩
  . rw [ZP]
    intro x hx;obtain ⟨y, _, rfl⟩ := Zp.mp hx;rfl
  . rw [Ze, Zb hl, YM]
    rfl
  . rw [zb0]
    exact decide_eq_true rfl
  . rw [Ze] at e
    have hml : m < zs.length := by omega
    rw [Zb hml] at e;cases e;rw [zb0, decide_eq_false];intro ez;have := Zz.mpr h
    have hle : zs.idxOf z <= m := by
      exact ie (by rw [Zb hml, ez])
    omega
def RowOf (ds : List HD) (r : List Str) : Prop := r.length = ds.length /\ ∀ (i : Nat) (d : HD) (z : Str), ds[i]? = some d -> r[i]? = some z -> z ∈ d.words
structure IntsAt (H : Hp) (ls : List Addr) (ps : List (List Int)) : Prop where
  len : ls.length = ps.length
  at' : ∀ (i : Nat) (l : Addr) (p : List Int), ls[i]? = some l -> ps[i]? = some p -> H l = some (.lst (p.map V.int))
theorem IntsAt.mono {H H' : Hp} {ls : List Addr} {ps : List (List Int)} (S : Same H H') (h : IntsAt H ls ps) : IntsAt H' ls ps := ⟨h.len, fun i l p e1 e2 => S _ _ (h.at' i l p e1 e2)⟩
theorem IntsAt.snoc {H : Hp} {ls : List Addr} {ps : List (List Int)} {l : Addr} {p : List Int} (h : IntsAt H ls ps) (hl : H l = some (.lst (p.map V.int))) : IntsAt H (ls ++ [l]) (ps ++ [p]) := by
  refine ⟨by simp [h.len], fun i a q e1 e2 => ?_⟩
  by_cases hi : i < ls.length
  . rw [Zg hi] at e1
    rw [Zg (by rw [<- h.len]; exact hi)] at e2;exact h.at' i a q e1 e2
  . rw [Zf (ZD.mp hi)] at e1
    rw [Zf (by rw [<- h.len]; exact ZD.mp hi)] at e2
    have h0 : i - ls.length = 0 := by
      have := (Zc.mp e1).1;simp at this;omega
    rw [h0] at e1;rw [<- h.len, h0] at e2;simp at e1 e2;subst e1 e2;exact hl
def yr (r : List Str) : List Key := r.map Sum.inr
theorem vh (r : List Str) : (yr r).map kV = r.map V.str := by
  rw [yr, List.map_map];rfl
theorem u4 {r q : List Str} (h : yr r = yr q) : r = q := by
  induction r generalizing q with
  | nil => cases q with
    | nil => rfl
    | cons _ _ => cases h
  | cons x xs ih => cases q with
    | nil => cases h
    | cons y ys =>
      rw [yr, yr, ZM, ZM] at h
      injection h with h1 h2
      injection h1 with h1
      rw [h1, ih h2]
def xg (f : List Str -> Str) (rs : List (List Str)) : List (List Key × V) := rs.map fun r => (yr r, V.str (f r))
theorem zdn {f : List Str -> Str} {rs : List (List Str)} {r : List Str} (h : r ∈ rs) : valV (xg f rs) (yr r) = some (V.str (f r)) := by
  induction rs with
  | nil => cases h
  | cons q rs ih =>
    rw [xg, ZM]
    by_cases e : q = r
    . rw [oh (by rw [e]), e]
    . rw [uk (fun z => e (u4 z))]
      exact ih ((ZK.mp h).resolve_left fun z => e z.symm)
theorem rg {ds : List HD} {row : List Str} (h : row ∈ zz (ds.map HD.words)) : RowOf ds row := by
  have hpk := rowsP_iff.mp h;refine ⟨by rw [hpk.1, Za], fun k d z e1 e2 => ?_⟩;obtain ⟨u, h1, h2⟩ := hpk.2 k d.words (by rw [Ze, e1]; rfl);rw [e2] at h1;cases h1;exact h2
section
variable {P : Program} {w : World} {K : Fg} {mg : Str -> Option Value} {base : Heap} {a : Ad}
theorem d6 (D : zf K mg "outcomes_of" ui ["house"]) : FnAt P w K mg base "outcomes_of" 1 ["house"] (wp K 0) := by
  refine FnAt.of D ef (fun vs H Q E h => ?_) (fun f cdv A outer s H vs Q E hr h => ?_)
  . obtain ⟨t, us, v, rfl, _⟩ := h
    rfl
  . obtain ⟨t, us, v, rfl, ht, e, q⟩ := h
    refine ⟨_, (@zh _ _ _ (@zm _ _ _ _ (@zw _ _ _ _ _ _ _ yn (pv 0) (@zg _ _ _ _) (fun _ _ => rfl)))), ?_⟩;rw [show zt ["house"] [V.ref t] = [some (V.ref t)] from rfl];simp only [zc, zd, ↓reduceIte];exact ⟨_, ht, _, z0 (j := 0) e, q⟩
theorem iw (D : zf K mg "worths_of_hand" xx ["hand"]) : FnAt P w K mg base "worths_of_hand" 1 ["hand"] (wp K 2) := by
  refine FnAt.of D qq (fun vs H Q E h => ?_) (fun f cdv A outer s H vs Q E hr h => ?_)
  . obtain ⟨t, us, v, rfl, _⟩ := h
    rfl
  . obtain ⟨t, us, v, rfl, ht, e, q⟩ := h
    refine ⟨_, (@zh _ _ _ (@zm _ _ _ _ (@zw _ _ _ _ _ _ _ yn (pv 0) (@zg _ _ _ _) (fun _ _ => rfl)))), ?_⟩;rw [show zt ["hand"] [V.ref t] = [some (V.ref t)] from rfl];simp only [zc, zd, ↓reduceIte];exact ⟨_, ht, _, z0 (j := 2) e, q⟩
end
def tm (K : Fg) : Sp := fun vs H Q _ => ∃ (g : Addr) (as : List Addr) (rows : List (List Int)) (s t : Nat) (ns : List Int) (x y : Int), vs = [.ref g, .int s, .int t] /\ GridL K H g as rows /\ rows[t]? = some ns /\ ns[t]? = some x /\ ns[s]? = some y /\ Q (.int (x - y)) H
def gcA (rows : List (List Int)) (t s : Nat) : Int := (rows.getD t []).getD s 0
def n0 (rows : List (List Int)) (ps : List Int) (t s : Nat) : Int := ps.getD t 0 - ps.getD s 0 - (gcA rows t t - gcA rows t s)
def zaq (rows : List (List Int)) (n : Nat) : Prop := ∀ i : Nat, i < n -> ∃ ns : List Int, rows[i]? = some ns /\ ns.length = n
theorem p8 {rows : List (List Int)} {t s : Nat} {ns : List Int} (h : rows[t]? = some ns) (hs : s < ns.length) : ns[s]? = some (gcA rows t s) := by
  unfold gcA;rw [Zk, Zk, h];simp [hs]
theorem ge {ps : List Int} {t : Nat} (h : t < ps.length) : ps[t]? = some (ps.getD t 0) := by
  rw [Zk]; simp [h]
def zbt (K : Fg) : Sp := fun vs H Q _ => ∃ (g p : Addr) (as : List Addr) (rows : List (List Int)) (ps : List Int) (n s t : Nat), vs = [.ref g, .ref p, .int t, .int s] /\ GridL K H g as rows /\ SqL K H p (ps.map V.int) /\ ps.length = n /\ zaq rows n /\ s < n /\ t < n /\ Q (.int (n0 rows ps t s)) H
def First (rows : List (List Int)) (ps : List Int) (n : Nat) : Option (Nat × Nat) -> Prop
  | none => ∀ t s : Nat, t < n -> s < n -> n0 rows ps t s <= 0
  | some (t, s) => t < n /\ s < n /\ 0 < n0 rows ps t s /\ ∀ t' s' : Nat, t' < n -> s' < n -> (t' < t \/ (t' = t /\ s' < s)) -> n0 rows ps t' s' <= 0
def spFG (K : Fg) : Sp := fun vs H Q _ => ∃ (g p : Addr) (as : List Addr) (rows : List (List Int)) (ps : List Int) (n : Nat), vs = [.ref g, .ref p] /\ GridL K H g as rows /\ as.length = n /\ SqL K H p (ps.map V.int) /\ ps.length = n /\ n <= 8 /\ zaq rows n /\
  (First rows ps n none -> Q .non H) /\ ∀ t s : Nat, First rows ps n (some (t, s)) -> ∀ l, H l = none -> Q (.ref l) (upd H l (.tup [.int t, .int s, .int (n0 rows ps t s)]))
def PvFG (g p : Addr) (rows : List (List Int)) (ps : List Int) (n : Nat) (k : Nat) (H : Hp) (i : Nat) (σ : L2.St) (H4 : Hp) : Prop := H4 = H /\ (∃ vs : List (Option V), vs.length = k /\ σ = some (.ref g) :: some (.ref p) :: vs) /\ ∀ t s : Nat, t < i -> s < n -> n0 rows ps t s <= 0
def PvFG2 (g p : Addr) (rows : List (List Int)) (ps : List Int) (n : Nat) (k : Nat) (H : Hp) (t : Nat) (j : Nat) (σ : L2.St) (H4 : Hp) : Prop := H4 = H /\ (∃ vs : List (Option V), vs.length = k /\ σ = some (.ref g) :: some (.ref p) :: some (.int t) :: vs) /\ ∀ s : Nat, s < j -> n0 rows ps t s <= 0
section
variable {P : Program} {w : World} {K : Fg} {mg : Str -> Option Value} {base : Heap}
theorem vn (D : zf K mg "turn" i0 ["grid", "s", "t"]) : FnAt P w K mg base "turn" 1 ["grid", "s", "t"] (tm K) := by
  refine FnAt.of D zhu (fun vs H Q E h => ?_) (fun f cdv A outer s H vs Q E hr h => ?_)
  . obtain ⟨g, as, rows, s, t, ns, x, y, rfl, _⟩ := h
    rfl
  . obtain ⟨g, as, rows, s, t, ns, x, y, rfl, G, h1, h2, h3, q⟩ := h
    refine ⟨_, (@zh _ _ _ (@zm _ _ _ _ (@zl _ _ _ _ _ _ _ _ wy (@zw _ _ _ _ _ _ _ z9 (@zw _ _ _ _ _ _ _ z9 (pv 0) (pv 2) (fun _ _ => rfl)) (pv 2) (fun _ _ => rfl)) (@zw _ _ _ _ _ _ _ z9 (@zw _ _ _ _ _ _ _ z9 (pv 0) (pv 2) (fun _ _ => rfl)) (pv 1) (fun _ _ => rfl))))), ?_⟩;rw [show zt ["grid", "s", "t"] [V.ref g, V.int s, V.int t] = [some (V.ref g), some (V.int s), some (V.int t)] from rfl];simp only [zc, zd, ↓reduceIte];obtain ⟨r, e1, e2⟩ := kg G h1;exact ⟨_, G.1, _, e1, r, rfl, _, e2, _, wa h2, _, G.1, _, e1, r, rfl, _, e2, _, wa h3, _, rfl, _, rfl, q⟩
theorem c0 (vn : FnAt P w K mg base "turn" 1 ["grid", "s", "t"] (tm K)) (D : zf K mg "gain" gk ["grid", "pays", "t", "s"]) : FnAt P w K mg base "gain" 2 ["grid", "pays", "t", "s"] (zbt K) := by
  refine FnAt.of D zhm (fun vs H Q E h => ?_) (fun f cdv A outer s H vs Q E hr h => ?_)
  . obtain ⟨g, p, as, rows, ps, n, s, t, rfl, _⟩ := h
    rfl
  . obtain ⟨g, p, as, rows, ps, n, s, t, rfl, G, hp, lp, hw, hs, ht, q⟩ := h
    refine ⟨_, (@zh _ _ _ (@zm _ _ _ _ (@zl _ _ _ _ _ _ _ _ wy (@zl _ _ _ _ _ _ _ _ wy (@zw _ _ _ _ _ _ _ z9 (pv 1) (pv 2) (fun _ _ => rfl)) (@zw _ _ _ _ _ _ _ z9 (pv 1) (pv 3) (fun _ _ => rfl))) (zj vn (hr.mono (by decide)) rfl (za (pv 0) (za (pv 3) (za (pv 2) (@zb _)))))))), ?_⟩;rw [show zt ["grid", "pays", "t", "s"] [V.ref g, V.ref p, V.int t, V.int s] = [some (V.ref g), some (V.ref p), some (V.int t), some (V.int s)] from rfl];simp only [zc, zd, ↓reduceIte];obtain ⟨ns, e1, l1⟩ := hw t ht;refine ⟨_, hp, _, wa (ge (by omega)), _, hp, _, wa (ge (by omega)), _, rfl, _, rfl, g, as, rows, s, t, ns, _, _, rfl, G, e1, p8 e1 (by omega), p8 e1 (by omega), ?_⟩;simp only [zc, zd, ↓reduceIte];exact q
theorem ox (B : Bt mg) (c0 : FnAt P w K mg base "gain" 2 ["grid", "pays", "t", "s"] (zbt K)) (D : zf K mg "first_gain" uv ["grid", "pays"]) : FnAt P w K mg base "first_gain" 3 ["grid", "pays"] (spFG K) := by
  refine FnAt.of D sc_first_gain (fun vs H Q E h => ?_) (fun f cdv A outer s H vs Q E hr h => ?_)
  . obtain ⟨g, p, as, rows, ps, n, rfl, _⟩ := h
    rfl
  . obtain ⟨g, p, as, rows, ps, n, rfl, G, la, hp, lp, hn, hw, q0, q1⟩ := h
    refine ⟨_, (@zi _ _ _ _ _ (yw PassesOwn.never rfl (yi rfl B.range (za (zn zq rfl B.len ye (za (pv 0) (@zb _))) (@zb _))) (zo (i := 2) sc_first_gain.nd rfl (Or.inl rfl)) (@zh _ _ _ (yw PassesOwn.never rfl (yi rfl B.range (za (zn zq rfl B.len ye (za (pv 0) (@zb _))) (@zb _))) (zo (i := 3) sc_first_gain.nd rfl (Or.inl rfl)) (@zi _ _ _ _ _ (zy (i := 4) sc_first_gain.nd rfl (Or.inl rfl) (zj c0 (hr.mono (by decide)) rfl (za (pv 0) (za (pv 1) (za (pv 2) (za (pv 3) (@zb _))))))) (@zh _ _ _ (@yz _ _ _ _ _ _ _ _ (@yv _ _ _ _ _ _ _ _ i4 (pv 4) (@zg _ _ _ _) (yq _)) (@zh _ _ _ (@zm _ _ _ _ (@y9 _ _ _ _ _ (za (pv 2) (za (pv 3) (za (pv 4) (@zb _))))))) (@yf _))))))) (@zh _ _ _ (@zm _ _ _ _ (@uc _ _ _)))), ?_⟩;rw [show zt ["grid", "pays", "t", "s", "more"] [V.ref g, V.ref p] = [some (V.ref g), some (V.ref p), none, none, none] from rfl];simp only [zc, zd, ↓reduceIte];refine ⟨_, .inl G.1, ?_⟩;rw [Za, la];refine ⟨by omega, by omega, ?_⟩;rw [Zw];refine xh (PvFG g p rows ps n 3 H) ⟨rfl, ⟨_, rfl, rfl⟩, fun t s h => by omega⟩ ?_ ?_
    . rintro i σ H4 hi ⟨rfl, ⟨vs, lv, rfl⟩, no⟩
      match vs, lv with
      | [v2, v3, v4], _ =>
      simp only [zc, zd, ↓reduceIte];refine ⟨_, .inl G.1, ?_⟩;rw [Za, la];refine ⟨by omega, by omega, ?_⟩;rw [Zw];refine xh (PvFG2 g p rows ps n 2 H4 i) ⟨rfl, ⟨_, rfl, rfl⟩, fun s h => by omega⟩ ?_ ?_
      . rintro j σ H5 hj ⟨rfl, ⟨vs, lv, rfl⟩, no2⟩
        match vs, lv with
        | [v3, v4], _ =>
        simp only [zc, zd, ↓reduceIte];refine ⟨g, p, as, rows, ps, n, j, i, rfl, G, hp, lp, hw, hj, hi, ?_⟩;simp only [zc, zd, ↓reduceIte];refine ite2 (fun h => ?_) fun h => ?_
        . refine ⟨by decide, q1 i j ⟨hi, hj, of_decide_eq_true h, fun t' s' h1 h2 h3 => ?_⟩⟩
          rcases h3 with z | ⟨rfl, z⟩
          . exact no t' s' z h2
          . exact no2 s' z
        . refine ⟨rfl, ⟨_, rfl, rfl⟩, fun s hs => ?_⟩
          by_cases e : s = j
          . subst e
            exact Int.not_lt.mp fun z => h (decide_eq_true z)
          . exact no2 s (by omega)
      . rintro σ H5 ⟨rfl, ⟨vs, lv, rfl⟩, no2⟩
        refine ⟨rfl, ⟨_, by simp [lv], rfl⟩, fun t s ht hs => ?_⟩
        by_cases e : t = i
        . subst e; exact no2 s hs
        . exact no t s (by omega) hs
    . rintro σ H4 ⟨rfl, ⟨vs, lv, rfl⟩, no⟩
      simp only [zc, zd, ↓reduceIte];exact q0 fun t s ht hs => no t s ht hs
end
def z7 (rows : List (List Int)) (s t : Nat) : Int := gcA rows t t - gcA rows t s
theorem gm (rows : List (List Int)) (t : Nat) : z7 rows t t = 0 := by unfold z7; omega
def jt : Nat -> List Nat -> Nat
  | a, [] => a
  | _, w :: ws => jt w ws
abbrev nI (ws : List Nat) : List Int := ws.map fun w : Nat => ((w : Nat) : Int)
theorem zbi : ∀ {ws : List Nat} {a : Nat}, ((nI (a :: ws)).map V.int) = ((nI (a :: ws)).map V.int).dropLast ++ [V.int (jt a ws)]
  | [], a => rfl
  | w :: ws, a => by
    have ih := @zbi ws w
    show V.int a :: ((nI (w :: ws)).map V.int) = V.int a :: (((nI (w :: ws)).map V.int).dropLast ++ [V.int (jt w ws)])
    rw [<- ih]
theorem zcq (a : Nat) (ws : List Nat) : atI ((nI (a :: ws)).map V.int) (-1) = some (V.int (jt a ws)) := by
  rw [zbi]; exact zf4 _ _
def wk (T : Nat -> Nat -> Int) : Nat -> List Nat -> Int
  | _, [] => 0
  | a, w :: ws => T a w + wk T w ws
def lst : Nat -> List Nat -> Nat
  | a, [] => a
  | _, w :: ws => lst w ws
theorem xz : ∀ (ws : List Nat) (a x : Nat), lst a (ws ++ [x]) = x
  | [], _, _ => rfl
  | w :: ws, _, x => xz ws w x
theorem fg : ∀ (ps : List Nat) (a b : Nat) (ss : List Nat), lst a (ps ++ b :: ss) = lst b ss
  | [], _, _, _ => rfl
  | p :: ps, _, b, ss => fg ps p b ss
theorem lc (T : Nat -> Nat -> Int) : ∀ (ps : List Nat) (a b : Nat) (ss : List Nat), wk T a (ps ++ b :: ss) = wk T a (ps ++ [b]) + wk T b ss
  | [], a, b, ss => by show T a b + wk T b ss = T a b + 0 + wk T b ss; omega
  | p :: ps, a, b, ss => by
    show T a p + wk T p (ps ++ b :: ss) = T a p + wk T p (ps ++ [b]) + wk T b ss
    rw [lc T ps p b ss]; omega
theorem va (T : Nat -> Nat -> Int) : ∀ (ws : List Nat) (a x : Nat), wk T a (ws ++ [x]) = wk T a ws + T (lst a ws) x
  | [], a, x => by show T a x + 0 = 0 + T a x; omega
  | w :: ws, a, x => by
    show T a w + wk T w (ws ++ [x]) = T a w + wk T w ws + T (lst w ws) x
    rw [va T ws w x]; omega
theorem zcg : ∀ (ws : List Nat) (a : Nat), lst a ws ∈ a :: ws
  | [], a => by simp [lst]
  | w :: ws, a => Zv _ (zcg ws w)
theorem vp : ∀ (ws : List Nat) (a : Nat), a :: ws = (a :: ws).dropLast ++ [lst a ws]
  | [], a => rfl
  | w :: ws, a => by
    have ih := vp ws w
    show a :: (w :: ws) = a :: ((w :: ws).dropLast ++ [lst w ws])
    rw [<- ih]
structure Wk (n k s t : Nat) (ws : List Nat) : Prop where
  len : ws.length = k
  lt : ∀ x ∈ ws, x < n
  to : lst s ws = t
structure Least (T : Nat -> Nat -> Int) (n k s t : Nat) (ws : List Nat) : Prop where
  w : Wk n k s t ws
  least : ∀ ws', Wk n k s t ws' -> wk T s ws <= wk T s ws'
theorem Least.one (T : Nat -> Nat -> Int) {n s t : Nat} (ht : t < n) : Least T n 1 s t [t] := by
  refine ⟨⟨rfl, fun x hx => by rw [ZC.mp hx]; exact ht, rfl⟩, fun ws' h => ?_⟩
  match ws', h.len, h.to with
  | [x], _, h2 =>
    have e : x = t := h2;subst e;exact Yt _
theorem Least.more {T : Nat -> Nat -> Int} {n k s t : Nat} (ht : t < n) (f : Nat -> List Nat) (hf : ∀ u, u < n -> Least T n k s u (f u)) (hk : 0 < k) {i : Nat} (hi : i < n) (hm : ∀ u, u < n -> wk T s (f i) + T i t <= wk T s (f u) + T u t) : Least T n (k + 1) s t (f i ++ [t]) := by
  have hi' := (hf i hi).w;refine ⟨⟨by rw [Zo, hi'.len]; rfl, fun x hx => ?_, xz _ _ _⟩, fun ws' h => ?_⟩
  . rcases ZH.mp hx with z | z
    . exact hi'.lt x z
    . rw [ZC.mp z]; exact ht
  . have hne : ws' ≠ [] := by intro e; subst e; have := h.len; simp at this
    obtain ⟨w, r, rfl⟩ : ∃ w r, ws' = w :: r := by
      cases ws' with
      | nil => exact absurd rfl hne
      | cons w r => exact ⟨w, r, rfl⟩
    have e1 := vp r w;have e2 : lst w r = t := h.to;rw [e2] at e1;generalize hp : (w :: r).dropLast = p at e1;rw [e1] at h ⊢;rw [va, va];have hl : p.length = k := by have := h.len; rw [Zo] at this; simpa using this
    have hlt : ∀ x ∈ p, x < n := fun x hx => h.lt x (ZV _ hx)
    have hu : lst s p < n := by
      cases p with
      | nil => simp at hl; omega
      | cons y q => exact hlt _ (zcg q y)
    have q := (hf (lst s p) hu).least p ⟨hl, hlt, rfl⟩;have q2 := hm (lst s p) hu;have q3 := hi'.to;rw [q3];omega
def NoNeg (T : Nat -> Nat -> Int) (n k : Nat) : Prop := ∀ s ws, s < n -> Wk n k s s ws -> 0 <= wk T s ws
theorem NoNeg.zero (T : Nat -> Nat -> Int) (n : Nat) : NoNeg T n 0 := fun s ws _ h => by
  have := h.len
  cases ws with
  | nil => exact Yt _
  | cons _ _ => simp at this
theorem NoNeg.one {T : Nat -> Nat -> Int} (h0 : ∀ t, T t t = 0) (n : Nat) : NoNeg T n 1 := fun s ws _ h => by
  match ws, h.len, h.to with
  | [x], _, h2 =>
    have e : x = s := h2;subst e
    show 0 <= T x x + 0
    rw [h0]; exact Yt _
theorem twice {l : List Nat} (h : ¬ l.Nodup) : ∃ x A B C, l = A ++ x :: (B ++ x :: C) := by
  induction l with
  | nil => exact absurd YC h
  | cons a r ih =>
    by_cases ha : a ∈ r
    . obtain ⟨B, C, e⟩ := List.append_of_mem ha
      exact ⟨a, [], B, C, by rw [e]; rfl⟩
    . have hr : ¬ r.Nodup := fun q => h (ZY.mpr ⟨ha, q⟩)
      obtain ⟨x, A, B, C, e⟩ := ih hr;exact ⟨x, a :: A, B, C, by rw [e]; rfl⟩
theorem parts {T : Nat -> Nat -> Int} {n k s : Nat} {ws : List Nat} (hs : s < n) (hk : 0 < k) (h : Wk n k s s ws) (hd : ¬ (s :: ws.dropLast).Nodup) (hno : ∀ j, j < k -> NoNeg T n j) : 0 <= wk T s ws := by
  obtain ⟨x, A, B, C, e⟩ := twice hd;have hne : ws ≠ [] := by intro q; subst q; have := h.len; simp at this; omega
  obtain ⟨w, r, rfl⟩ : ∃ w r, ws = w :: r := by
    cases ws with
    | nil => exact absurd rfl hne
    | cons w r => exact ⟨w, r, rfl⟩
  have e1 := vp r w;have e2 : lst w r = s := h.to;rw [e2] at e1;generalize hp : (w :: r).dropLast = p at e e1;rw [e1] at h ⊢;have hlen : p.length + 1 = k := by have := h.len; rw [Zo] at this; simpa using this
  have hlt := h.lt
  cases A with
  | nil =>
    injection e with ea eb
    subst ea;rw [eb] at hlen hlt ⊢;have l1 : B.length + 1 + C.length + 1 = k := by rw [Zo, ZL] at hlen; omega
    rw [List.append_assoc, ZN, lc]
    have q1 := hno (B.length + 1) (by omega) s (B ++ [s]) hs ⟨by simp, fun y hy => hlt y (by
      simp only [ZH, ZK, ZC] at hy ⊢
      rcases hy with z | z
      . exact .inl (.inl z)
      . exact .inr (by simpa using z)), xz _ _ _⟩
    have q2 := hno (C.length + 1) (by omega) s (C ++ [s]) hs ⟨by simp, fun y hy => hlt y (by
      simp only [ZH, ZK, ZC] at hy ⊢
      rcases hy with z | z
      . exact .inl (.inr (.inr z))
      . exact .inr (by simpa using z)), xz _ _ _⟩
    omega
  | cons a A =>
    obtain ⟨ea, eb⟩ : s = a /\ p = A ++ x :: (B ++ x :: C) := by
      injection e with ea eb
      exact ⟨ea, eb⟩
    subst ea;rw [eb] at hlen hlt ⊢
    have l1 : A.length + 1 + B.length + 1 + C.length + 1 = k := by
      simp only [Zo, ZL] at hlen; omega
    have hx : x < n := hlt x (by simp);have e3 : (A ++ x :: (B ++ x :: C)) ++ [s] = A ++ x :: (B ++ x :: (C ++ [s])) := by simp
    rw [e3, lc, lc T B]
    have q1 := hno (B.length + 1) (by omega) x (B ++ [x]) hx ⟨by simp, fun y hy => hlt y (by
      simp only [ZH, ZK, ZC] at hy ⊢
      rcases hy with z | z
      . exact .inl (.inr (.inr (.inl z)))
      . exact .inl (.inr (.inl (by simpa using z)))), xz _ _ _⟩
    have q2 := hno (A.length + 1 + (C.length + 1)) (by omega) s (A ++ x :: (C ++ [s])) hs ⟨by simp; omega, fun y hy => hlt y (by
      simp only [ZH, ZK, ZC] at hy ⊢
      rcases hy with z | z | z | z
      . exact .inl (.inl z)
      . exact .inl (.inr (.inl z))
      . exact .inl (.inr (.inr (.inr (.inr z))))
      . exact .inr (by simpa using z)), by rw [fg, xz]⟩
    rw [lc] at q2;omega
theorem few {n : Nat} : ∀ {l : List Nat}, l.Nodup -> (∀ x ∈ l, x < n) -> l.length <= n := by
  induction n with
  | zero =>
    intro l _ h
    cases l with
    | nil => exact Zm _
    | cons a r => exact absurd (h a ZA) (Yy _)
  | succ n ih =>
    intro l hd h
    have q := ih (l := l.erase n) (hd.erase n) fun x hx => by
      have h1 := (List.Nodup.mem_erase_iff hd).mp hx;have h2 := h x h1.2;have h3 := h1.1;omega
    have z := List.length_erase (a := n) (l := l)
    split at z <;> omega
theorem NoNeg.all {T : Nat -> Nat -> Int} {n : Nat} (h : ∀ j, j <= n -> NoNeg T n j) : ∀ k, NoNeg T n k := by
  intro k
  induction k using Nat.strongRecOn with
  | ind k ih =>
    by_cases hk : k <= n
    . exact h k hk
    . intro s ws hs hw
      refine parts hs (by omega) hw (fun hd => ?_) ih;have hl : (s :: ws.dropLast).length = k := by rw [ZL, List.length_dropLast, hw.len]; omega
      have := few hd (fun x hx => by
        rcases ZK.mp hx with z | z
        . rw [z]; exact hs
        . exact hw.lt x (List.dropLast_subset _ z))
      omega
def rnd (T : Nat -> Nat -> Int) : List Nat -> Int
  | [] => 0
  | a :: ws => wk T a (ws ++ [a])
structure RingA (T : Nat -> Nat -> Int) (n : Nat) (c : List Nat) : Prop where
  two : 2 <= c.length
  nd : c.Nodup
  lt : ∀ x ∈ c, x < n
  neg : rnd T c < 0
  few : ∀ j, j < c.length -> NoNeg T n j
theorem RingA.of {T : Nat -> Nat -> Int} {n k s : Nat} {ws : List Nat} (h0 : ∀ t, T t t = 0) (hs : s < n) (h : Wk n k s s ws) (hneg : wk T s ws < 0) (hno : ∀ j, j < k -> NoNeg T n j) : RingA T n ((s :: ws).dropLast) := by
  have hk : 2 <= k := by
    rcases Nat.lt_or_ge k 2 with z | z
    . exfalso
      have : k = 0 \/ k = 1 := by omega
      rcases this with rfl | rfl
      . have := NoNeg.zero T n s ws hs h; omega
      . have := NoNeg.one h0 n s ws hs h; omega
    . exact z
  obtain ⟨w, r, rfl⟩ : ∃ w r, ws = w :: r := by
    cases ws with
    | nil => have := h.len; simp at this; omega
    | cons w r => exact ⟨w, r, rfl⟩
  have e0 : (s :: w :: r).dropLast = s :: (w :: r).dropLast := rfl;have e1 := vp r w;have e2 : lst w r = s := h.to;rw [e2] at e1;rw [e0];have hl : (s :: (w :: r).dropLast).length = k := by rw [ZL, List.length_dropLast, h.len]; omega
  refine ⟨by rw [hl]; exact hk, Classical.byContradiction fun hd => ?_, fun x hx => ?_, ?_, fun j hj => hno j (by rw [hl] at hj; exact hj)⟩
  . have := parts hs (by omega) h hd hno
    omega
  . rcases ZK.mp hx with z | z
    . rw [z]; exact hs
    . exact h.lt x (List.dropLast_subset _ z)
  . show wk T s ((w :: r).dropLast ++ [s]) < 0
    rw [<- e1]; exact hneg
theorem NoNeg.rnd {T : Nat -> Nat -> Int} {n k : Nat} (h : NoNeg T n k) {c : List Nat} (hl : c.length = k) (hc : ∀ x ∈ c, x < n) : 0 <= rnd T c := by
  cases c with
  | nil => exact Yt _
  | cons a ws =>
    exact h a (ws ++ [a]) (hc a ZA) ⟨by simpa using hl, fun x hx => by
      rcases ZH.mp hx with z | z
      . exact hc x (Zv _ z)
      . rw [ZC.mp z]; exact hc a ZA, xz _ _ _⟩
theorem zdk : ∀ (ws : List Nat) (a : Nat), lst a ws = jt a ws
  | [], _ => rfl
  | w :: ws, _ => zdk ws w
def WalkAt (H : Hp) (v : V) (T : Nat -> Nat -> Int) (s : Nat) (ws : List Nat) : Prop := ∃ p l, v = .ref p /\ H p = some (.tup [.int (wk T s ws), .ref l]) /\ H l = some (.lst ((nI (s :: ws)).map V.int))
def RowAt (H : Hp) (v : V) (T : Nat -> Nat -> Int) (n k s : Nat) : Prop := ∃ r xs, v = .ref r /\ H r = some (.lst xs) /\ xs.length = n /\ ∀ t, t < n -> ∃ x ws, xs[t]? = some x /\ WalkAt H x T s ws /\ Least T n k s t ws
def RowsAt (H : Hp) (v : V) (T : Nat -> Nat -> Int) (n k : Nat) : Prop := ∃ r xs, v = .ref r /\ H r = some (.lst xs) /\ xs.length = n /\ ∀ s, s < n -> ∃ x, xs[s]? = some x /\ RowAt H x T n k s
theorem WalkAt.mono {H H' : Hp} {v : V} {T : Nat -> Nat -> Int} {s : Nat} {ws : List Nat} (S : Same H H') (h : WalkAt H v T s ws) : WalkAt H' v T s ws := by
  obtain ⟨p, l, e, h1, h2⟩ := h;exact ⟨p, l, e, S _ _ h1, S _ _ h2⟩
theorem RowAt.mono {H H' : Hp} {v : V} {T : Nat -> Nat -> Int} {n k s : Nat} (S : Same H H') (h : RowAt H v T n k s) : RowAt H' v T n k s := by
  obtain ⟨r, xs, e, h1, h2, h3⟩ := h
  exact ⟨r, xs, e, S _ _ h1, h2, fun t ht => by
    obtain ⟨x, ws, e1, e2, e3⟩ := h3 t ht
    exact ⟨x, ws, e1, e2.mono S, e3⟩⟩
theorem RowsAt.mono {H H' : Hp} {v : V} {T : Nat -> Nat -> Int} {n k : Nat} (S : Same H H') (h : RowsAt H v T n k) : RowsAt H' v T n k := by
  obtain ⟨r, xs, e, h1, h2, h3⟩ := h
  exact ⟨r, xs, e, S _ _ h1, h2, fun s hs => by
    obtain ⟨x, e1, e2⟩ := h3 s hs
    exact ⟨x, e1, e2.mono S⟩⟩
def RowPre (H0 : Hp) (T : Nat -> Nat -> Int) (n k s : Nat) (i : Nat) (ys : List V) (H2 : Hp) : Prop := Same H0 H2 /\ ys.length = i /\ ∀ t, t < i -> ∃ x ws, ys[t]? = some x /\ WalkAt H2 x T s ws /\ Least T n k s t ws
theorem RowPre.snoc {H0 H2 H3 : Hp} {T : Nat -> Nat -> Int} {n k s i : Nat} {ys : List V} {x : V} {ws : List Nat} (h : RowPre H0 T n k s i ys H2) (S : Same H2 H3) (hx : WalkAt H3 x T s ws) (hl : Least T n k s i ws) : RowPre H0 T n k s (i + 1) (ys ++ [x]) H3 := by
  obtain ⟨h1, h2, h3⟩ := h;refine ⟨h1.trans S, by rw [Zo, h2]; rfl, fun t ht => ?_⟩
  by_cases e : t < i
  . obtain ⟨y, us, e1, e2, e3⟩ := h3 t e
    exact ⟨y, us, by rw [Zg (by omega)]; exact e1, e2.mono S, e3⟩
  . have : t = i := by omega
    subst this;exact ⟨x, ws, by rw [Zf (by omega), h2]; simp, hx, hl⟩
theorem RowPre.done {H0 H2 : Hp} {T : Nat -> Nat -> Int} {n k s : Nat} {ys : List V} {l : Addr} (h : RowPre H0 T n k s n ys H2) (hl : H2 l = none) : Same H0 (upd H2 l (.lst ys)) /\ RowAt (upd H2 l (.lst ys)) (.ref l) T n k s := by
  obtain ⟨h1, h2, h3⟩ := h;have S : Same H2 (upd H2 l (.lst ys)) := Same.upd (Same.refl _) hl;refine ⟨h1.trans S, l, ys, rfl, ze, h2, fun t ht => ?_⟩;obtain ⟨y, us, e1, e2, e3⟩ := h3 t ht;exact ⟨y, us, e1, e2.mono S, e3⟩
def RowsPre (H0 : Hp) (T : Nat -> Nat -> Int) (n k : Nat) (i : Nat) (ys : List V) (H2 : Hp) : Prop := Same H0 H2 /\ ys.length = i /\ ∀ t, t < i -> ∃ x, ys[t]? = some x /\ RowAt H2 x T n k t
theorem RowsPre.snoc {H0 H2 H3 : Hp} {T : Nat -> Nat -> Int} {n k i : Nat} {ys : List V} {x : V} (h : RowsPre H0 T n k i ys H2) (S : Same H2 H3) (hx : RowAt H3 x T n k i) : RowsPre H0 T n k (i + 1) (ys ++ [x]) H3 := by
  obtain ⟨h1, h2, h3⟩ := h;refine ⟨h1.trans S, by rw [Zo, h2]; rfl, fun t ht => ?_⟩
  by_cases e : t < i
  . obtain ⟨y, e1, e2⟩ := h3 t e
    exact ⟨y, by rw [Zg (by omega)]; exact e1, e2.mono S⟩
  . have : t = i := by omega
    subst this;exact ⟨x, by rw [Zf (by omega), h2]; simp, hx⟩
theorem RowsPre.done {H0 H2 : Hp} {T : Nat -> Nat -> Int} {n k : Nat} {ys : List V} {l : Addr} (h : RowsPre H0 T n k n ys H2) (hl : H2 l = none) : Same H0 (upd H2 l (.lst ys)) /\ RowsAt (upd H2 l (.lst ys)) (.ref l) T n k := by
  obtain ⟨h1, h2, h3⟩ := h;have S : Same H2 (upd H2 l (.lst ys)) := Same.upd (Same.refl _) hl;refine ⟨h1.trans S, l, ys, rfl, ze, h2, fun t ht => ?_⟩;obtain ⟨y, e1, e2⟩ := h3 t ht;exact ⟨y, e1, e2.mono S⟩
structure Gd (K : Fg) (H : Hp) (g : Addr) (rows : List (List Int)) (n : Nat) : Prop where
  ex : ∃ as, GridL K H g as rows /\ as.length = n
  sq : zaq rows n
  n8 : n <= 8
theorem Gd.mono {K : Fg} {H H' : Hp} {g : Addr} {rows : List (List Int)} {n : Nat} (S : Same H H') (G : Gd K H g rows n) : Gd K H' g rows n := by
  obtain ⟨as, h1, h2⟩ := G.ex;exact ⟨⟨as, GridL.mono S h1, h2⟩, G.sq, G.n8⟩
theorem qi {K : Fg} {H : Hp} {g : Addr} {rows : List (List Int)} {n s t : Nat} {Q : VK} {E : XK} (G : Gd K H g rows n) (hs : s < n) (ht : t < n) (q : Q (.int (z7 rows s t)) H) : tm K [.ref g, .int s, .int t] H Q E := by
  obtain ⟨as, h1, h2⟩ := G.ex;obtain ⟨ns, e1, l1⟩ := G.sq t ht;exact ⟨g, as, rows, s, t, ns, _, _, rfl, h1, e1, p8 e1 (by omega), p8 e1 (by omega), q⟩
def oa : Sp := fun vs H Q _ => ∃ (p : Addr) (i : Int) (l : V), vs = [.ref p] /\ H p = some (.tup [.int i, l]) /\ Q (.int i) H
def k9 : Sp := fun vs H Q _ => ∃ (p : Addr) (i : Int) (l : V), vs = [.ref p] /\ H p = some (.tup [.int i, l]) /\ Q l H
def spOne (K : Fg) : Sp := fun vs H Q _ => ∃ (g : Addr) (rows : List (List Int)) (n s : Nat), vs = [.ref g, .int s] /\ Gd K H g rows n /\ s < n /\ ∀ H' v, Same H H' -> RowAt H' v (z7 rows) n 1 s -> Q v H'
def zbk (K : Fg) : Sp := fun vs H Q _ => ∃ (g : Addr) (rows : List (List Int)) (v : V) (n k s t : Nat), vs = [.ref g, v, .int t] /\ Gd K H g rows n /\ RowAt H v (z7 rows) n k s /\ t < n /\ s < n /\ 0 < k /\ k <= 100 /\
  ∀ H' x ws, Same H H' -> WalkAt H' x (z7 rows) s ws -> Least (z7 rows) n (k + 1) s t ws -> Q x H'
def zez (K : Fg) : Sp := fun vs H Q _ => ∃ (g : Addr) (rows : List (List Int)) (v : V) (n k s : Nat), vs = [.ref g, v] /\ Gd K H g rows n /\ RowAt H v (z7 rows) n k s /\ s < n /\ 0 < k /\ k <= 100 /\
  ∀ H' v', Same H H' -> RowAt H' v' (z7 rows) n (k + 1) s -> Q v' H'
def bc : Sp := fun vs H Q _ => ∃ (T : Nat -> Nat -> Int) (v : V) (n k : Nat), vs = [v] /\ RowsAt H v T n k /\ 0 < k /\ n <= 8 /\ (∀ H', Same H H' -> NoNeg T n k -> Q .non H') /\
  ∀ H' s ws l, Same H H' -> H' l = some (.lst ((nI ((s :: ws).dropLast)).map V.int)) -> s < n -> Wk n k s s ws -> wk T s ws < 0 -> Q (.ref l) H'
def zaa (K : Fg) : Sp := fun vs H Q _ => ∃ (g : Addr) (rows : List (List Int)) (n : Nat), vs = [.ref g] /\ Gd K H g rows n /\ 0 < n /\ (∀ H', Same H H' -> (∀ j, j <= n -> NoNeg (z7 rows) n j) -> Q .non H') /\
  ∀ H' l c, Same H H' -> H' l = some (.lst ((nI c).map V.int)) -> RingA (z7 rows) n c -> Q (.ref l) H'
section
variable {P : Program} {w : World} {K : Fg} {mg : Str -> Option Value} {base : Heap}
theorem xb (D : zf K mg "total_of" pw ["walk"]) : FnAt P w K mg base "total_of" 1 ["walk"] oa := by
  refine FnAt.of D zba (fun vs H Q E h => ?_) (fun f cdv A outer s H vs Q E hr h => ?_)
  . obtain ⟨p, i, l, rfl, _⟩ := h
    rfl
  . obtain ⟨p, i, l, rfl, hp, q⟩ := h
    refine ⟨_, (@zh _ _ _ (@zm _ _ _ _ (@zw _ _ _ _ _ _ _ yn (pv 0) (@zg _ _ _ _) (fun _ _ => rfl)))), ?_⟩;rw [show zt ["walk"] [V.ref p] = [some (V.ref p)] from rfl];simp only [zc, zd, ↓reduceIte];exact ⟨_, .of hp, _, z0 (j := 0) rfl, q⟩
theorem tj (D : zf K mg "words_of" pi ["walk"]) : FnAt P w K mg base "words_of" 1 ["walk"] k9 := by
  refine FnAt.of D za6 (fun vs H Q E h => ?_) (fun f cdv A outer s H vs Q E hr h => ?_)
  . obtain ⟨p, i, l, rfl, _⟩ := h
    rfl
  . obtain ⟨p, i, l, rfl, hp, q⟩ := h
    refine ⟨_, (@zh _ _ _ (@zm _ _ _ _ (@zw _ _ _ _ _ _ _ yn (pv 0) (@zg _ _ _ _) (fun _ _ => rfl)))), ?_⟩;rw [show zt ["walk"] [V.ref p] = [some (V.ref p)] from rfl];simp only [zc, zd, ↓reduceIte];exact ⟨_, .of hp, _, z0 (j := 1) rfl, q⟩
theorem ve (B : Bt mg) (vn : FnAt P w K mg base "turn" 1 ["grid", "s", "t"] (tm K)) (D : zf K mg "walks_of_one_turn" x6 ["grid", "s"]) : FnAt P w K mg base "walks_of_one_turn" 2 ["grid", "s"] (spOne K) := by
  refine FnAt.of D km (fun vs H Q E h => ?_) (fun f cdv A outer s H vs Q E hr h => ?_)
  . obtain ⟨g, rows, n, s, rfl, _⟩ := h
    rfl
  . obtain ⟨g, rows, n, s, rfl, G, hs, q⟩ := h
    have n8 := G.n8;refine ⟨_, (@zh _ _ _ (@zm _ _ _ _ (yk ["t"] ["grid", "s"] rfl (yi rfl B.range (za (zn zq rfl B.len ye (za (pv 0) (@zb _))) (@zb _))) (fun _ => (zo (i := 0) (show (["t", "grid", "s"] : List Str).Nodup by decide +kernel) rfl (Or.inl rfl))) (fun _ => (@yc _)) (fun _ => (@y9 _ _ _ _ _ (@za _ _ _ _ _ (zj vn (hr.mono (by decide)) rfl (@za _ _ _ _ _ (pv 1) (@za _ _ _ _ _ (pv 2) (@za _ _ _ _ _ (pv 0) (@zb _) (z8 nofun)) (z8 nofun)) (z8 nofun))) (@za _ _ _ _ _ (@y8 _ _ _ _ (@za _ _ _ _ _ (pv 2) (@za _ _ _ _ _ (pv 0) (@zb _) (z8 nofun)) (z8 nofun))) (@zb _) (z8 nofun)) (z8 nofun)))) rfl (by decide +kernel) rfl rfl))), ?_⟩;rw [show zt ["grid", "s"] [V.ref g, V.int s] = [some (V.ref g), some (V.int s)] from rfl];simp only [zc, zd, ↓reduceIte];obtain ⟨as, h1, h2⟩ := G.ex;refine ⟨_, .inl h1.1, ?_⟩;rw [Za, h2];refine ⟨by omega, by omega, fun d => ?_⟩;rw [Zw];refine y7 (RowPre H (z7 rows) n 1 s) ⟨Same.refl _, rfl, fun t ht => by omega⟩ ?_ ?_ ?_
    . rintro i ys H' hi h
      rw [h.2.1];exact Zd hi (Zd n8 (by decide))
    . rintro i ys H' hi h
      simp only [zc, zd, ↓reduceIte];refine qi (G.mono h.1) hs hi ?_;refine ⟨by show 2 <= sizeLine; decide, fun l hl => ⟨by show 2 <= sizeLine; decide, fun p hp => ?_⟩⟩;have S1 : Same H' (upd H' l (.lst [V.int s, V.int i])) := Same.upd (Same.refl _) hl;have S2 : Same (upd H' l (.lst [V.int s, V.int i])) (upd (upd H' l (.lst [V.int s, V.int i])) p (.tup [V.int (z7 rows s i), V.ref l])) := Same.upd (Same.refl _) hp;refine h.snoc (ws := [i]) (S1.trans S2) ⟨p, l, rfl, ?_, S2 _ _ ze⟩ (Least.one _ hi);rw [ze]
      show _ = some (HO.tup [V.int (z7 rows s i + 0), V.ref l])
      rw [Int.add_zero]
    . rintro ys H' h l hl
      obtain ⟨S, R⟩ := h.done hl;exact q _ _ S R
end
theorem zbv (ws : List Nat) (t : Nat) : (nI ws).map V.int ++ [V.int t] = (nI (ws ++ [t])).map V.int := by simp [nI]
theorem zf3 (xs : List V) : cutV xs none (some (-1)) = xs.dropLast := by
  unfold cutV;rw [HT.sIx_none, List.drop_zero, Nat.sub_zero, YH]
  congr 1
  unfold HT.sIx;simp;omega
theorem zbd (ws : List Nat) : ((nI ws).map V.int).dropLast = (nI ws.dropLast).map V.int := by
  rw [YH, YH, nI, nI, <- YO, <- YO];simp
theorem zdt {H : Hp} {T : Nat -> Nat -> Int} {n k s : Nat} {xs : List V} (h : ∀ t, t < n -> ∃ x ws, xs[t]? = some x /\ WalkAt H x T s ws /\ Least T n k s t ws) :
    ∃ f : Nat -> List Nat, ∀ t, t < n -> Least T n k s t (f t) /\ ∀ x, xs[t]? = some x -> WalkAt H x T s (f t) := by
  refine ⟨fun t => if ht : t < n then Classical.choose (Classical.choose_spec (h t ht)) else [], fun t ht => ?_⟩;have z := Classical.choose_spec (Classical.choose_spec (h t ht));simp only [ht, dif_pos];refine ⟨z.2.2, fun x hx => ?_⟩;rw [z.1] at hx;cases hx;exact z.2.1
def zcn (K : Fg) : Sp := fun vs H Q _ => ∃ (g l : Addr) (rows : List (List Int)) (ts : List Int) (n t : Nat), vs = [.ref g, .ref l, .int t] /\ Gd K H g rows n /\ 0 < n /\ SqL K H l (ts.map V.int) /\ ts.length = n /\ t < n /\ ∀ H' m, Same H H' -> Q (.int m) H'
def zdg (H : Hp) (i : Nat) (ys : List V) (H' : Hp) : Prop := Same H H' /\ ∃ ns : List Int, ns.length = i /\ ys = ns.map V.int
def HonA (rows : List (List Int)) (ps : List Int) (n : Nat) : Prop := ∀ t s : Nat, t < n -> s < n -> gcA rows t s - gcA rows t t <= ps.getD s 0 - ps.getD t 0
def spHas (K : Fg) : Sp := fun vs H Q _ => ∃ (g : Addr) (rows : List (List Int)) (n : Nat), vs = [.ref g] /\ Gd K H g rows n /\ 0 < n /\ ∀ H' (b : Bool), Same H H' -> (b = true -> ∃ ps : List Int, HonA rows ps n) -> Q (.bl b) H'
def PvTotH (H : Hp) (g : Addr) (n : Nat) (i : Nat) (σ : L2.St) (H' : Hp) : Prop := Same H H' /\ ∃ (l : Addr) (ts : List Int) (v : Option V), H' l = some (.lst (ts.map V.int)) /\ ts.length = n /\ σ = [some (.ref g), some (.ref l), v]
theorem zbh {rows : List (List Int)} {ps : List Int} {n : Nat} (h : HonA rows ps n) : ∀ (ws : List Nat) (s : Nat), s < n -> (∀ x ∈ ws, x < n) -> ps.getD (lst s ws) 0 - ps.getD s 0 <= wk (z7 rows) s ws
  | [], s, _, _ => by show ps.getD s 0 - ps.getD s 0 <= 0; omega
  | w :: ws, s, hs, hw => by
    have hw' := hw w ZA;have h1 := zbh h ws w hw' fun x hx => hw x (Zv _ hx)
    have h2 := h w s hw' hs
    show ps.getD (lst w ws) 0 - ps.getD s 0 <= z7 rows s w + wk (z7 rows) w ws
    unfold z7;unfold z7 at h1;omega
theorem HonA.no {rows : List (List Int)} {ps : List Int} {n : Nat} (h : HonA rows ps n) (j : Nat) : NoNeg (z7 rows) n j := fun s ws hs W => by
  have := zbh h ws s hs W.lt;rw [W.to] at this;omega
section
variable {P : Program} {w : World} {K : Fg} {mg : Str -> Option Value} {base : Heap}
theorem tw (B : Bt mg) (vn : FnAt P w K mg base "turn" 1 ["grid", "s", "t"] (tm K)) (xb : FnAt P w K mg base "total_of" 1 ["walk"] oa) (D : zf K mg "least_to" uy ["grid", "walks", "t"]) : FnAt P w K mg base "least_to" 3 ["grid", "walks", "t"] (zbk K) := by
  refine FnAt.of D sc_least_to (fun vs H Q E h => ?_) (fun f cdv A outer s H vs Q E hr h => ?_)
  . obtain ⟨g, rows, v, n, k, s, t, rfl, _⟩ := h
    rfl
  . obtain ⟨g, rows, v, n, k, s, t, rfl, G, R, ht, hs, hk, hk2, q⟩ := h
    have n8 := G.n8;obtain ⟨r, xs, rfl, hr1, hlen, hall⟩ := R;obtain ⟨fw, hfw⟩ := zdt hall;refine ⟨_, (@zi _ _ _ _ _ (w6 (i := 3) ["total", "words"] ["grid", "walks", "t", "longer"] sc_least_to.nd rfl rfl rfl (@yh _ _ _ _ (pv 1)) (fun _ => (rn rfl (y2 (zo (i := 0) (show (["total", "words", "grid", "walks", "t", "longer"] : List Str).Nodup by decide +kernel) rfl (Or.inl rfl)) (y2 (zo (i := 1) (show (["total", "words", "grid", "walks", "t", "longer"] : List Str).Nodup by decide +kernel) rfl (Or.inl rfl)) (@um _))))) (fun _ => (@yc _)) (fun _ => (@y9 _ _ _ _ _ (za (@zl _ _ _ _ _ _ _ _ yp (pv 0) (zj vn (hr.mono (by decide)) rfl (za (pv 2) (za (@zw _ _ _ _ _ _ _ z9 (pv 1) (@cm _ _ _ _ _ _ g6 (@zg _ _ _ _)) (fun _ _ => rfl)) (za (pv 4) (@zb _)))))) (za (@zl _ _ _ _ _ _ _ _ zar (pv 1) (@y8 _ _ _ _ (za (pv 4) (@zb _)))) (@zb _))))) rfl (by decide +kernel) rfl rfl rfl) (@zh _ _ _ (@zm _ _ _ _ (zbw xb (hr.mono (by decide)) rfl rfl B.min rfl (za (pv 3) (@zb _)))))), ?_⟩;rw [show zt ["grid", "walks", "t", "longer"] [V.ref g, V.ref r, V.int t] = [some (V.ref g), some (V.ref r), some (V.int t), none] from rfl];simp only [zc, zd, ↓reduceIte];refine ⟨⟨_, .of hr1⟩, fun d => ?_⟩;refine yo (xs := xs) (fun i ys H2 => Same H H2 /\ ys.length = i /\ ∀ u, u < i -> ∃ x, ys[u]? = some x /\ WalkAt H2 x (z7 rows) s (fw u ++ [t])) ⟨Same.refl _, rfl, fun u hu => by omega⟩ ?_ ?_ ?_
    . rintro i ys H2 hi ⟨S, hl, _⟩
      exact ⟨by rw [hl]; rw [hlen] at hi; exact Zd hi (Zd n8 (by decide)), S.seq (.of hr1)⟩
    . rintro i x ys H2 hx ⟨S, hl, hy⟩
      have hi : i < n := by rw [<- hlen]; exact (Zc.mp hx).1
      obtain ⟨hL, hW⟩ := hfw i hi;obtain ⟨p, l, rfl, hp, hl1⟩ := hW x hx;have hp2 := S _ _ hp;have hl2 := S _ _ hl1;have hto := hL.w.to;rw [zdk] at hto;simp only [zc, zd, ↓reduceIte];refine ⟨_, .of hp2, rfl, ?_⟩;simp only [zc, zd, ↓reduceIte];refine ⟨_, .of hl2, _, zcq s (fw i), ?_⟩;rw [hto];refine qi (G.mono S) hi ht ?_;simp only [zc, zd, ↓reduceIte];refine ⟨by show 1 <= sizeLine; decide, fun b hb => ?_⟩;have S1 : Same H2 (upd H2 b (.lst [V.int t])) := Same.upd (Same.refl _) hb;refine ⟨_, S1 _ _ hl2, _, ze, ?_, fun c hc => ⟨by show 2 <= sizeLine; decide, fun e he => ?_⟩⟩
      . have := hL.w.len
        simp only [nI, Za, ZL, Ym, this];exact Zd (show k + 1 + 1 <= 102 by omega) (by decide)
      . have S2 : Same (upd H2 b (.lst [V.int t])) (upd (upd H2 b (.lst [V.int t])) c (.lst ((nI (s :: fw i)).map V.int ++ [V.int t]))) := Same.upd (Same.refl _) hc
        have S3 := Same.upd (o := .tup [V.int (wk (z7 rows) s (fw i) + z7 rows i t), V.ref c]) (Same.refl (upd (upd H2 b (.lst [V.int t])) c (.lst ((nI (s :: fw i)).map V.int ++ [V.int t])))) he;refine ⟨S.trans (S1.trans (S2.trans S3)), by simp [hl], fun u hu => ?_⟩
        by_cases eu : u < i
        . obtain ⟨x, e1, e2⟩ := hy u eu
          exact ⟨x, by rw [Zg (by omega)]; exact e1, e2.mono (S1.trans (S2.trans S3))⟩
        . have : u = i := by omega
          subst this;refine ⟨.ref e, by rw [Zf (by omega), hl]; simp, e, c, rfl, ?_, ?_⟩
          . rw [ze, va, hL.w.to]
          . exact S3 _ _ (by rw [ze, zbv]; rfl)
    . rintro ys H2 ⟨S, hl, hy⟩ lo hlo
      rw [hlen] at hl hy;have S1 : Same H2 (upd H2 lo (.lst ys)) := Same.upd (Same.refl _) hlo;refine ⟨ys, .of ze, by omega, fun u => wk (z7 rows) s (fw u ++ [t]), fun i x hx => ?_, fun i x hx hm => ?_⟩
      . have hi : i < n := by rw [<- hl]; exact (Zc.mp hx).1
        obtain ⟨x', e1, p, l, e2, hp, hl1⟩ := hy i hi;rw [hx] at e1;cases e1;subst e2;exact ⟨p, _, _, rfl, S1 _ _ hp, rfl, rfl⟩
      . have hi : i < n := by rw [<- hl]; exact (Zc.mp hx).1
        obtain ⟨x', e1, hw⟩ := hy i hi;rw [hx] at e1;cases e1;refine q _ _ _ (S.trans S1) (hw.mono S1) (Least.more ht fw (fun u hu => (hfw u hu).1) hk hi fun u hu => ?_);have z : wk (z7 rows) s (fw i ++ [t]) <= wk (z7 rows) s (fw u ++ [t]) := (hm u (by omega)).1;rw [va, va, (hfw i hi).1.w.to, (hfw u hu).1.w.to] at z;exact z
theorem vm (B : Bt mg) (tw : FnAt P w K mg base "least_to" 3 ["grid", "walks", "t"] (zbk K)) (D : zf K mg "lengthened" vj ["grid", "walks"]) : FnAt P w K mg base "lengthened" 4 ["grid", "walks"] (zez K) := by
  refine FnAt.of D k6 (fun vs H Q E h => ?_) (fun f cdv A outer s H vs Q E hr h => ?_)
  . obtain ⟨g, rows, v, n, k, s, rfl, _⟩ := h
    rfl
  . obtain ⟨g, rows, v, n, k, s, rfl, G, R, hs, hk, hk2, q⟩ := h
    have n8 := G.n8;refine ⟨_, (@zh _ _ _ (@zm _ _ _ _ (yk ["t"] ["grid", "walks"] rfl (yi rfl B.range (za (zn zq rfl B.len ye (za (pv 0) (@zb _))) (@zb _))) (fun _ => (zo (i := 0) (show (["t", "grid", "walks"] : List Str).Nodup by decide +kernel) rfl (Or.inl rfl))) (fun _ => (@yc _)) (fun _ => (zj tw (hr.mono (by decide)) rfl (za (pv 1) (za (pv 2) (za (pv 0) (@zb _)))))) rfl (by decide +kernel) rfl rfl))), ?_⟩;rw [show zt ["grid", "walks"] [V.ref g, v] = [some (V.ref g), some v] from rfl];simp only [zc, zd, ↓reduceIte];obtain ⟨as, h1, h2⟩ := G.ex;refine ⟨_, .inl h1.1, ?_⟩;rw [Za, h2];refine ⟨by omega, by omega, fun d => ?_⟩;rw [Zw];refine y7 (RowPre H (z7 rows) n (k + 1) s) ⟨Same.refl _, rfl, fun t ht => by omega⟩ ?_ ?_ ?_
    . rintro i ys H' hi h
      rw [h.2.1];exact Zd hi (Zd n8 (by decide))
    . rintro i ys H' hi h
      simp only [zc, zd, ↓reduceIte];exact ⟨g, rows, v, n, k, s, i, rfl, G.mono h.1, R.mono h.1, hi, hs, hk, hk2, fun H2 x ws S1 hw hl => h.snoc S1 hw hl⟩
    . rintro ys H' h l hl
      obtain ⟨S, R⟩ := h.done hl;exact q _ _ S R
theorem vd (B : Bt mg) (xb : FnAt P w K mg base "total_of" 1 ["walk"] oa) (tj : FnAt P w K mg base "words_of" 1 ["walk"] k9) (D : zf K mg "closed_below_zero" x0 ["rows"]) : FnAt P w K mg base "closed_below_zero" 2 ["rows"] bc := by
  refine FnAt.of D sc_closed_below_zero (fun vs H Q E h => ?_) (fun f cdv A outer s H vs Q E hr h => ?_)
  . obtain ⟨T, v, n, k, rfl, _⟩ := h
    rfl
  . obtain ⟨T, v, n, k, rfl, ⟨r, xs, rfl, hr1, hlen, hall⟩, hk, n8, q0, q1⟩ := h
    refine ⟨_, (@zi _ _ _ _ _ (yw PassesOwn.never rfl (jb rfl B.enumerate (za (pv 0) (@zb _))) (rn rfl (y2 (zo (i := 1) sc_closed_below_zero.nd rfl (Or.inl rfl)) (y2 (zo (i := 2) sc_closed_below_zero.nd rfl (Or.inl rfl)) (@um _)))) (@zh _ _ _ (@yz _ _ _ _ _ _ _ _ (@yv _ _ _ _ _ _ _ _ gz (zj xb (hr.mono (by decide)) rfl (za (@zw _ _ _ _ _ _ _ z9 (pv 2) (pv 1) (fun _ _ => rfl)) (@zb _))) (@zg _ _ _ _) (yq _)) (@zh _ _ _ (@zm _ _ _ _ (@wv _ _ _ _ _ _ _ _ _ _ zhl (zj tj (hr.mono (by decide)) rfl (za (@zw _ _ _ _ _ _ _ z9 (pv 2) (pv 1) (fun _ _ => rfl)) (@zb _))) (@vv _) (@vc _ _ _ (@cm _ _ _ _ _ _ g6 (@zg _ _ _ _)))))) (@yf _)))) (@zh _ _ _ (@zm _ _ _ _ (@uc _ _ _)))), ?_⟩;rw [show zt ["rows", "s", "walks"] [V.ref r] = [some (V.ref r), none, none] from rfl];simp only [zc, zd, ↓reduceIte];refine ⟨⟨_, .of hr1⟩, ?_⟩;refine zgj (xs := xs) (fun i σ H2 => Same H H2 /\ (∃ v1 v2, σ = [some (.ref r), v1, v2]) /\ ∀ s, s < i -> ∀ ws, Wk n k s s ws -> 0 <= wk T s ws) ⟨Same.refl _, ⟨_, _, rfl⟩, fun s hs => by omega⟩ ?_ ?_ ?_
    . rintro i σ H2 hi ⟨S, _, _⟩
      exact S.seq (.of hr1)
    . rintro i x σ H2 U hx hU ⟨S, ⟨v1, v2, rfl⟩, no⟩
      have hi : i < n := by rw [<- hlen]; exact (Zc.mp hx).1
      obtain ⟨x', e1, R⟩ := hall i hi;rw [hx] at e1;cases e1;obtain ⟨r2, zs, rfl, hr2, hl2, hz⟩ := R;obtain ⟨y, ws, e2, hw, hL⟩ := hz i hi;obtain ⟨p, l, rfl, hp, hl1⟩ := hw;have SU : Same H (upd H2 U (.tup [V.int i, V.ref r2])) := Same.upd S (S.free hU);simp only [zc, zd, ↓reduceIte];refine ⟨_, .of ze, rfl, ?_⟩;simp only [zc, zd, ↓reduceIte];refine ⟨_, .of (SU _ _ hr2), _, z0 e2, p, _, _, rfl, SU _ _ hp, ?_⟩;simp only [zc, zd, ↓reduceIte];refine ite2 (fun h => ?_) (fun h => ?_)
      . refine ⟨_, .of (SU _ _ hr2), _, z0 e2, p, _, _, rfl, SU _ _ hp, ?_⟩
        simp only [zc, zd, ↓reduceIte];refine ⟨_, .of (SU _ _ hl1), fun b hb => ?_⟩;refine q1 _ i ws b (Same.upd SU (SU.free hb)) ?_ hi hL.w (of_decide_eq_true h);rw [ze, show (-1 : Int) = -1 from rfl, zf3, zbd]
      . refine ⟨SU, fun s hs us hu => ?_⟩
        by_cases e : s < i
        . exact no s e us hu
        . have : s = i := by omega
          subst this;have z := hL.least us hu;have : ¬ wk T s ws < 0 := fun y => h (decide_eq_true y)
          omega
    . rintro σ H2 ⟨S, ⟨v1, v2, rfl⟩, no⟩
      simp only [zc, zd, ↓reduceIte];exact q0 _ S fun s ws hs hw => no s (by omega) ws hw
theorem si (B : Bt mg) (vn : FnAt P w K mg base "turn" 1 ["grid", "s", "t"] (tm K)) (D : zf K mg "after_a_turn" vx ["grid", "totals", "t"]) : FnAt P w K mg base "after_a_turn" 2 ["grid", "totals", "t"] (zcn K) := by
  refine FnAt.of D i9 (fun vs H Q E h => ?_) (fun f cdv A outer s H vs Q E hr h => ?_)
  . obtain ⟨g, l, rows, ts, n, t, rfl, _⟩ := h
    rfl
  . obtain ⟨g, l, rows, ts, n, t, rfl, G, hn, hl, lt, ht, q⟩ := h
    have n8 := G.n8;refine ⟨_, (@zh _ _ _ (@zm _ _ _ _ (zn (ze1 rfl) rfl B.min bv (za (yk ["s", "total"] ["grid", "totals", "t"] rfl (jb rfl B.enumerate (za (pv 1) (@zb _))) (fun _ => (rn rfl (y2 (zo (i := 0) (show (["s", "total", "grid", "totals", "t"] : List Str).Nodup by decide +kernel) rfl (Or.inl rfl)) (y2 (zo (i := 1) (show (["s", "total", "grid", "totals", "t"] : List Str).Nodup by decide +kernel) rfl (Or.inl rfl)) (@um _))))) (fun _ => (@yc _)) (fun _ => (@zl _ _ _ _ _ _ _ _ yp (pv 1) (zj vn (hr.mono (by decide)) rfl (za (pv 2) (za (pv 0) (za (pv 4) (@zb _))))))) rfl (by decide +kernel) rfl rfl) (@zb _))))), ?_⟩;rw [show zt ["grid", "totals", "t"] [V.ref g, V.ref l, V.int t] = [some (V.ref g), some (V.ref l), some (V.int t)] from rfl];simp only [zc, zd, ↓reduceIte];refine ⟨⟨_, hl⟩, fun d => ?_⟩;refine ze9 (xs := ts.map V.int) (zdg H) ⟨Same.refl _, [], rfl, rfl⟩ ?_ ?_ ?_
    . rintro i ys H2 hi ⟨S, ns, ln, rfl⟩
      rw [Za] at hi;exact ⟨by rw [Za, ln]; exact Zd hi (Zd (show ts.length <= 8 by omega) (by decide)), S.seq hl⟩
    . rintro i x ys H2 T hx hT ⟨S, ns, ln, rfl⟩
      obtain ⟨y, hy, rfl⟩ := yy hx;have hi : i < n := by have := (Zc.mp hy).1; omega
      have S1 : Same H2 (upd H2 T (.tup [V.int i, V.int y])) := Same.upd (Same.refl _) hT;simp only [zc, zd, ↓reduceIte];refine ⟨_, .of ze, rfl, ?_⟩;generalize upd H2 T (.tup [V.int i, V.int y]) = H3 at *;simp only [zc, zd, ↓reduceIte];refine qi (G.mono (S.trans S1)) hi ht ?_;simp only [zc, zd, ↓reduceIte];exact ⟨S.trans S1, ns ++ [y + z7 rows i t], by simp [ln], by simp⟩
    . rintro ys H2 ⟨S, ns, ln, rfl⟩ p hp
      rw [Za, lt] at ln;exact ⟨_, .of ze, by omega, fun m _ _ => q _ m (S.trans (Same.upd (Same.refl _) hp))⟩
theorem og (B : Bt mg) (si : FnAt P w K mg base "after_a_turn" 2 ["grid", "totals", "t"] (zcn K)) (ox : FnAt P w K mg base "first_gain" 3 ["grid", "pays"] (spFG K)) (D : zf K mg "has_honest" ux ["grid"]) : FnAt P w K mg base "has_honest" 4 ["grid"] (spHas K) := by
  refine FnAt.of D sc_has_honest (fun vs H Q E h => ?_) (fun f cdv A outer s H vs Q E hr h => ?_)
  . obtain ⟨g, rows, n, rfl, _⟩ := h
    rfl
  . obtain ⟨g, rows, n, rfl, G, hn, q⟩ := h
    have n8 := G.n8;refine ⟨_, (@zi _ _ _ _ _ (zy (i := 1) sc_has_honest.nd rfl (Or.inr rfl) (yk ["row"] ["grid", "totals", "size"] rfl (@yh _ _ _ _ (pv 0)) (fun _ => (zo (i := 0) (show (["row", "grid", "totals", "size"] : List Str).Nodup by decide +kernel) rfl (Or.inl rfl))) (fun _ => (@yc _)) (fun _ => (@zg _ _ _ _)) rfl (by decide +kernel) rfl rfl)) (@zi _ _ _ _ _ (yw PassesOwn.never rfl (jm rfl B.range (za (@zg _ _ _ _) (za (@zl _ _ _ _ _ _ _ _ yp (zn zq rfl B.len ye (za (pv 0) (@zb _))) (@zg _ _ _ _)) (@zb _)))) (zo (i := 2) sc_has_honest.nd rfl (Or.inl rfl)) (@zh _ _ _ (zy (i := 1) sc_has_honest.nd rfl (Or.inr rfl) (yk ["t"] ["grid", "totals", "size"] rfl (yi rfl B.range (za (zn zq rfl B.len ye (za (pv 0) (@zb _))) (@zb _))) (fun _ => (zo (i := 0) (show (["t", "grid", "totals", "size"] : List Str).Nodup by decide +kernel) rfl (Or.inl rfl))) (fun _ => (@yc _)) (fun _ => (zj si (hr.mono (by decide)) rfl (za (pv 1) (za (pv 2) (za (pv 0) (@zb _)))))) rfl (by decide +kernel) rfl rfl)))) (@zh _ _ _ (@zm _ _ _ _ (@se _ _ _ _ _ _ _ _ op_isN (zj ox (hr.mono (by decide)) rfl (za (pv 0) (za (pv 1) (@zb _)))) (@uc _ _ _) (yq _)))))), ?_⟩;rw [show zt ["grid", "totals", "size"] [V.ref g] = [some (V.ref g), none, none] from rfl];simp only [zc, zd, ↓reduceIte];obtain ⟨as, h1, h2⟩ := G.ex;refine ⟨⟨_, h1.1⟩, fun d => ?_⟩;refine yo (xs := as.map V.ref) (zdg H) ⟨Same.refl _, [], rfl, rfl⟩ ?_ ?_ ?_
    . rintro i ys H2 hi ⟨S, ns, ln, rfl⟩
      rw [Za, h2] at hi;exact ⟨by rw [Za, ln]; exact Zd hi (Zd n8 (by decide)), S.seq h1.1⟩
    . rintro i x ys H2 hx ⟨S, ns, ln, rfl⟩
      simp only [zc, zd, ↓reduceIte];exact ⟨S, ns ++ [0], by simp [ln], by simp⟩
    . rintro ys H2 ⟨S, ns, ln, rfl⟩ p hp
      rw [Za, h2] at ln;have S1 : Same H (upd H2 p (.lst (ns.map V.int))) := S.trans (Same.upd (Same.refl _) hp);have p1 : upd H2 p (.lst (ns.map V.int)) p = some (.lst (ns.map V.int)) := ze;generalize upd H2 p (.lst (ns.map V.int)) = H3 at *;refine ⟨_, .inl (S1.seq h1.1), ?_⟩;rw [Za, h2];refine ⟨by omega, by omega, by omega, by omega, ?_⟩;rw [show ((n : Int) + 1 - 2).toNat = n - 1 by omega];refine xh (PvTotH H g n) ⟨S1, p, ns, _, p1, ln, rfl⟩ ?_ ?_
      . rintro i σ H4 hi ⟨S4, p4, ts, v, hp4, lt, rfl⟩
        simp only [zc, zd, ↓reduceIte];refine ⟨_, .inl (S4.seq h1.1), ?_⟩;rw [Za, h2];refine ⟨by omega, by omega, fun d2 => ?_⟩;rw [Zw];refine y7 (zdg H4) ⟨Same.refl _, [], rfl, rfl⟩ ?_ ?_ ?_
        . rintro j ys H5 hj ⟨S5, ms, lm, rfl⟩
          rw [Za, lm];exact Zd hj (Zd n8 (by decide))
        . rintro j ys H5 hj ⟨S5, ms, lm, rfl⟩
          simp only [zc, zd, ↓reduceIte];exact ⟨g, p4, rows, ts, n, j, rfl, G.mono (S4.trans S5), hn, .of (S5 _ _ hp4), lt, hj, fun H6 m S6 => ⟨S5.trans S6, ms ++ [m], by simp [lm], by simp⟩⟩
        . rintro ys H5 ⟨S5, ms, lm, rfl⟩ p5 hp5
          exact ⟨S4.trans (S5.trans (Same.upd (Same.refl _) hp5)), p5, ms, _, ze, lm, rfl⟩
      . rintro σ H4 ⟨S4, p4, ts, v, hp4, lt, rfl⟩
        simp only [zc, zd, ↓reduceIte];refine ⟨g, p4, as, rows, ts, n, rfl, (GridL.mono S4 h1), h2, .of hp4, lt, n8, G.sq, fun h => ?_, fun t s h l hl => ?_⟩
        . exact q H4 true S4 fun _ => ⟨ts, fun t s ht hs => by
            have := h t s ht hs;unfold n0 at this
            omega⟩
        . exact q _ false (S4.trans (Same.upd (Same.refl _) hl)) fun z => by cases z
theorem jo (B : Bt mg) (og : FnAt P w K mg base "has_honest" 4 ["grid"] (spHas K)) (ve : FnAt P w K mg base "walks_of_one_turn" 2 ["grid", "s"] (spOne K)) (vm : FnAt P w K mg base "lengthened" 4 ["grid", "walks"] (zez K)) (vd : FnAt P w K mg base "closed_below_zero" 2 ["rows"] bc)
    (D : zf K mg "ring" gf ["grid"]) : FnAt P w K mg base "ring" 5 ["grid"] (zaa K) := by
  refine FnAt.of D sc_ring (fun vs H Q E h => ?_) (fun f cdv A outer s H vs Q E hr h => ?_)
  . obtain ⟨g, rows, n, rfl, _⟩ := h
    rfl
  . obtain ⟨g, rows, n, rfl, G0, hn, q00, q10⟩ := h
    have n8 := G0.n8;refine ⟨_, (@zi _ _ _ _ _ (@yz _ _ _ _ _ _ _ _ (xn (zj og (hr.mono (by decide)) rfl (za (pv 0) (@zb _)))) (@zh _ _ _ (@zm _ _ _ _ (@uc _ _ _))) (@yf _)) (@zi _ _ _ _ _ (w6 (i := 1) ["s"] ["grid", "rows", "size", "found"] sc_ring.nd rfl rfl rfl (yi rfl B.range (za (zn zq rfl B.len ye (za (pv 0) (@zb _))) (@zb _))) (fun _ => (zo (i := 0) (show (["s", "grid", "rows", "size", "found"] : List Str).Nodup by decide +kernel) rfl (Or.inl rfl))) (fun _ => (@yc _)) (fun _ => (zj ve (hr.mono (by decide)) rfl (za (pv 1) (za (pv 0) (@zb _))))) rfl (by decide +kernel) rfl rfl rfl) (@zi _ _ _ _ _ (yw PassesOwn.never rfl (jm rfl B.range (za (@zg _ _ _ _) (za (@zl _ _ _ _ _ _ _ _ yp (zn zq rfl B.len ye (za (pv 0) (@zb _))) (@zg _ _ _ _)) (@zb _)))) (zo (i := 2) sc_ring.nd rfl (Or.inl rfl)) (@zi _ _ _ _ _ (w6 (i := 1) ["walks"] ["grid", "rows", "size", "found"] sc_ring.nd rfl rfl rfl (@yh _ _ _ _ (pv 1)) (fun _ => (zo (i := 0) (show (["walks", "grid", "rows", "size", "found"] : List Str).Nodup by decide +kernel) rfl (Or.inl rfl))) (fun _ => (@yc _)) (fun _ => (zj vm (hr.mono (by decide)) rfl (za (pv 1) (za (pv 0) (@zb _))))) rfl (by decide +kernel) rfl rfl rfl) (@zi _ _ _ _ _ (zy (i := 3) sc_ring.nd rfl (Or.inl rfl) (zj vd (hr.mono (by decide)) rfl (za (pv 1) (@zb _)))) (@zh _ _ _ (@yz _ _ _ _ _ _ _ _ (@yv _ _ _ _ _ _ _ _ fu (pv 3) (@uc _ _ _) (yq _)) (@zh _ _ _ (@zm _ _ _ _ (pv 3))) (@yf _)))))) (@zh _ _ _ (@zm _ _ _ _ (@uc _ _ _)))))), ?_⟩;rw [show zt ["grid", "rows", "size", "found"] [V.ref g] = [some (V.ref g), none, none, none] from rfl];simp only [zc, zd, ↓reduceIte];refine ⟨g, rows, n, rfl, G0, hn, fun H0 hb S0 hHon => ?_⟩;refine ⟨hb, rfl, ite2 (fun hy => ?_) fun _ => ?_⟩
    . obtain ⟨ps, hps⟩ := hHon hy
      exact q00 H0 S0 fun j _ => hps.no j
    have G := G0.mono S0;have q0 : ∀ H', Same H0 H' -> (∀ j, j <= n -> NoNeg (z7 rows) n j) -> Q .non H' := fun H' S' h => q00 H' (S0.trans S') h
    have q1 : ∀ H' l c, Same H0 H' -> H' l = some (.lst ((nI c).map V.int)) -> RingA (z7 rows) n c -> Q (.ref l) H' := fun H' l c S' h1 h2 => q10 H' l c (S0.trans S') h1 h2
    obtain ⟨as, h1, h2⟩ := G.ex;refine ⟨_, .inl h1.1, ?_⟩;rw [Za, h2];refine ⟨by omega, by omega, fun d => ?_⟩;rw [Zw];refine y7 (RowsPre H0 (z7 rows) n 1) ⟨Same.refl _, rfl, fun t ht => by omega⟩ ?_ ?_ ?_
    . rintro i ys H' hi h
      rw [h.2.1];exact Zd hi (Zd n8 (by decide))
    . rintro i ys H' hi h
      simp only [zc, zd, ↓reduceIte];exact ⟨g, rows, n, i, rfl, G.mono h.1, hi, fun H2 x S1 hR => h.snoc S1 hR⟩
    . rintro ys H' h l hl
      obtain ⟨S, R⟩ := h.done hl;generalize upd H' l (.lst ys) = H1 at *;refine ⟨_, .inl (S.seq h1.1), ?_⟩;rw [Za, h2];refine ⟨by omega, by omega, by omega, by omega, ?_⟩;rw [show ((n : Int) + 1 - 2).toNat = n - 1 by omega];refine xh (fun i σ H2 => Same H0 H2 /\ (∃ v v2 v3, σ = [some (.ref g), some v, v2, v3] /\ RowsAt H2 v (z7 rows) n (i + 1)) /\ ∀ j, j <= i + 1 -> NoNeg (z7 rows) n j) ⟨S, ⟨_, _, _, rfl, R⟩, fun j hj => ?_⟩ ?_ ?_
      . have : j = 0 \/ j = 1 := by omega
        rcases this with rfl | rfl
        . exact NoNeg.zero _ _
        . exact NoNeg.one (gm rows) _
      . rintro i σ H2 hi ⟨S2, ⟨v, v2, v3, rfl, ⟨r, xs, rfl, hr1, hlen, hall⟩⟩, no⟩
        simp only [zc, zd, ↓reduceIte];refine ⟨⟨_, .of hr1⟩, fun d2 => ?_⟩;refine yo (xs := xs) (RowsPre H2 (z7 rows) n (i + 1 + 1)) ⟨Same.refl _, rfl, fun t ht => by omega⟩ ?_ ?_ ?_
        . rintro j ys H' hj h
          rw [h.2.1];exact ⟨Zd hj (Zd (by omega) (show 8 <= sizeLine by decide)), h.1.seq (.of hr1)⟩
        . rintro j x ys H' hx h
          have hj : j < n := by rw [<- hlen]; exact (Zc.mp hx).1
          obtain ⟨x', e1, R⟩ := hall j hj;rw [hx] at e1;cases e1;simp only [zc, zd, ↓reduceIte];exact ⟨g, rows, x, n, i + 1, j, rfl, G.mono (S2.trans h.1), R.mono h.1, hj, by omega, by omega, fun H3 v' S3 hR => h.snoc S3 hR⟩
        . rintro ys H' h l hl
          rw [hlen] at h;obtain ⟨S3, R3⟩ := h.done hl;generalize upd H' l (.lst ys) = H3 at *;refine ⟨z7 rows, .ref l, n, i + 2, rfl, R3, by omega, n8, fun H4 S4 hno => ?_, fun H4 s ws b S4 hb hs hw hneg => ?_⟩
          . simp only [zc, zd, ↓reduceIte]
            refine ⟨S2.trans (S3.trans S4), R3.mono S4, fun j hj => ?_⟩
            by_cases e : j <= i + 1
            . exact no j e
            . have : j = i + 2 := by omega
              subst this;exact hno
          . simp only [zc, zd, ↓reduceIte]
            refine q1 H4 b _ (S2.trans (S3.trans S4)) hb (RingA.of (gm rows) hs hw hneg fun j hj => no j (by omega))
      . rintro σ H2 ⟨S2, ⟨v, v2, v3, rfl, _⟩, no⟩
        simp only [zc, zd, ↓reduceIte];exact q0 H2 S2 fun j hj => no j (by omega)
end
structure Rd (T : Nat -> Nat -> Int) (b : Nat -> Int) (S : Nat -> Prop) (n k t : Nat) (e : Int × List Nat) : Prop where
  ex : ∃ s ws, e.2 = s :: ws /\ S s /\ s < n /\ lst s ws = t /\ (∀ x ∈ ws, x < n) /\ e.1 = b s + wk T s ws /\ (s :: ws).Nodup /\ ws.length <= k
def Low (T : Nat -> Nat -> Int) (b : Nat -> Int) (S : Nat -> Prop) (n k t : Nat) (i : Int) : Prop := ∀ s ws, S s -> s < n -> lst s ws = t -> (∀ x ∈ ws, x < n) -> ws.length <= k -> i <= b s + wk T s ws
structure Rds (T : Nat -> Nat -> Int) (b : Nat -> Int) (S : Nat -> Prop) (n k : Nat) (f : Nat -> Int × List Nat) : Prop where
  rd : ∀ t, t < n -> Rd T b S n k t (f t)
  low : ∀ t, t < n -> Low T b S n k t (f t).1
theorem zcd {n : Nat} : ∀ (ws : List Nat) (s : Nat), s < n -> (∀ x ∈ ws, x < n) -> lst s ws < n
  | [], _, h, _ => h
  | w :: ws, _, _, h => zcd ws w (h w ZA) fun x hx => h x (Zv _ hx)
theorem lst_lt {n : Nat} {ws : List Nat} {s : Nat} (hs : s < n) (h : ∀ x ∈ ws, x < n) : lst s ws < n := zcd ws s hs h
theorem back {T : Nat -> Nat -> Int} {b : Nat -> Int} {S : Nat -> Prop} {n k i t s : Nat} {ws : List Nat} {m : Int} (no : ∀ k, NoNeg T n k) (ht : t < n) (hS : S s) (hs : s < n) (hto : lst s ws = i) (hlt : ∀ x ∈ ws, x < n) (hk : ws.length <= k) (hl : Low T b S n k t m) (hm : t ∈ s :: ws) : m <= b s + wk T s ws + T i t := by
  have closed : ∀ C : List Nat, (∀ x ∈ C, x < n) -> lst t C = i -> 0 <= wk T t C + T i t := fun C hC hi => by
    have := no (C.length + 1) t (C ++ [t]) ht ⟨by simp, fun x hx => by
      rcases ZH.mp hx with z | z
      . exact hC x z
      . rw [ZC.mp z]; exact ht, xz _ _ _⟩
    rw [va, hi] at this;exact this
  rcases ZK.mp hm with z | z
  . subst z
    have h1 := hl t [] hS hs rfl (fun x hx => nomatch hx) (ZE _);have h2 := closed ws hlt hto;have h3 : wk T t [] = 0 := rfl;omega
  . obtain ⟨A, C, rfl⟩ := List.append_of_mem z
    have hA : ∀ x ∈ A ++ [t], x < n := fun x hx => hlt x (by
      rcases ZH.mp hx with z | z
      . exact ZV _ z
      . rw [ZC.mp z]; simp)
    have h1 := hl s (A ++ [t]) hS hs (xz _ _ _) hA (by simp at hk ⊢; omega);rw [fg] at hto;have h2 := closed C (fun x hx => hlt x (Zu _ (Zv _ hx))) hto;rw [lc];omega
theorem Rds.step {T : Nat -> Nat -> Int} {b : Nat -> Int} {S : Nat -> Prop} {n k : Nat} {f f' : Nat -> Int × List Nat} (no : ∀ k, NoNeg T n k) (R : Rds T b S n k f)
    (h : ∀ t, t < n -> ∃ i, i < n /\ (∀ u, u < n -> (f i).1 + T i t <= (f u).1 + T u t) /\ (((f i).1 + T i t < (f t).1 /\ f' t = ((f i).1 + T i t, (f i).2 ++ [t])) \/ ((f t).1 <= (f i).1 + T i t /\ f' t = f t))) : Rds T b S n (k + 1) f' := by
  refine ⟨fun t ht => ?_, fun t ht => ?_⟩
  . obtain ⟨i, hi, hm, hc⟩ := h t ht
    rcases hc with ⟨hlt, e⟩ | ⟨_, e⟩
    . obtain ⟨s, ws, e1, hS, hs, hto, hw, hv, hd, hk⟩ := (R.rd i hi).ex
      have hn : t ∉ s :: ws := fun z => by
        have := back no ht hS hs hto hw hk (R.low t ht) z;omega
      rw [e];refine ⟨s, ws ++ [t], by rw [e1]; rfl, hS, hs, xz _ _ _, fun x hx => ?_, ?_, ?_, by simp; exact hk⟩
      . rcases ZH.mp hx with z | z
        . exact hw x z
        . rw [ZC.mp z]; exact ht
      . show (f i).1 + T i t = _
        rw [va, hto, hv]; omega
      . show ((s :: ws) ++ [t]).Nodup
        refine Yp.mpr ⟨hd, by simp, fun x hx y hy => ?_⟩;rw [ZC.mp hy]
        rintro rfl
        exact hn hx
    . obtain ⟨s, ws, e1, hS, hs, hto, hw, hv, hd, hk⟩ := (R.rd t ht).ex
      rw [e];exact ⟨s, ws, e1, hS, hs, hto, hw, hv, hd, by omega⟩
  . obtain ⟨i, hi, hm, hc⟩ := h t ht
    have h1 : (f' t).1 <= (f t).1 /\ (f' t).1 <= (f i).1 + T i t := by
      rcases hc with ⟨hlt, e⟩ | ⟨hlt, e⟩ <;> rw [e]
      . exact ⟨by show (f i).1 + T i t <= _; omega, Yt _⟩
      . exact ⟨Yt _, hlt⟩
    intro s ws hS hs hto hw hk
    by_cases hk' : ws.length <= k
    . have := R.low t ht s ws hS hs hto hw hk'
      omega
    . obtain ⟨w, r, rfl⟩ : ∃ w r, ws = w :: r := by
        cases ws with
        | nil => simp at hk'
        | cons w r => exact ⟨w, r, rfl⟩
      have e1 := vp r w;have e2 : lst w r = t := hto;rw [e2] at e1;generalize hp : (w :: r).dropLast = p at e1;rw [e1] at hw hk ⊢;have hwp : ∀ x ∈ p, x < n := fun x hx => hw x (ZV _ hx)
      have hu := lst_lt hs hwp;have q1 := R.low (lst s p) hu s p hS hs rfl hwp (by simp at hk; exact hk);have q2 := hm (lst s p) hu;rw [va];omega
theorem Rds.honest {T : Nat -> Nat -> Int} {b : Nat -> Int} {S : Nat -> Prop} {n k : Nat} {f : Nat -> Int × List Nat} (no : ∀ k, NoNeg T n k) (R : Rds T b S n k f) (hk : n <= k + 1) {s t : Nat} (hs : s < n) (ht : t < n) : (f t).1 <= (f s).1 + T s t := by
  obtain ⟨s0, ws, e1, hS, hs0, hto, hw, hv, hd, hk2⟩ := (R.rd s hs).ex
  by_cases hm : t ∈ s0 :: ws
  . have := back no ht hS hs0 hto hw hk2 (R.low t ht) hm
    omega
  . have hd2 : (s0 :: (ws ++ [t])).Nodup := by
      show ((s0 :: ws) ++ [t]).Nodup
      refine Yp.mpr ⟨hd, by simp, fun x hx y hy => ?_⟩;rw [ZC.mp hy]
      rintro rfl
      exact hm hx
    have hw2 : ∀ x ∈ ws ++ [t], x < n := fun x hx => by
      rcases ZH.mp hx with z | z
      . exact hw x z
      . rw [ZC.mp z]; exact ht
    have hl := few hd2 (fun x hx => by
      rcases ZK.mp hx with z | z
      . rw [z]; exact hs0
      . exact hw2 x z)
    have := R.low t ht s0 (ws ++ [t]) hS hs0 (xz _ _ _) hw2 (by simp at hl ⊢; omega);rw [va, hto] at this;omega
theorem Rds.one {T : Nat -> Nat -> Int} {b : Nat -> Int} {n : Nat} {f : Nat -> Int × List Nat} (h : ∀ t, t < n -> f t = (b t, [t])) : Rds T b (fun _ => True) n 0 f := by
  refine ⟨fun t ht => ⟨t, [], by rw [h t ht], trivial, ht, rfl, (fun x hx => nomatch hx), by rw [h t ht]; show b t = b t + 0; omega, by simp, Zm _⟩, fun t ht s ws _ hs hto hw hk => ?_⟩
  cases ws with
  | nil =>
    have e : s = t := hto;subst e;rw [h s ht]
    show b s <= b s + 0
    omega
  | cons _ _ => simp at hk
theorem Rd.most {T : Nat -> Nat -> Int} {b : Nat -> Int} {S : Nat -> Prop} {n k t : Nat} {e : Int × List Nat} (R : Rd T b S n k t e) {p : Nat -> Int} (hp : ∀ s t, s < n -> t < n -> p t - p s <= T s t) (hb : ∀ s, s < n -> S s -> p s <= b s) : p t <= e.1 := by
  obtain ⟨s, ws, e1, hS, hs, hto, hw, hv, hd, hk⟩ := R.ex
  have gen : ∀ (ws : List Nat) (s : Nat), s < n -> (∀ x ∈ ws, x < n) -> p (lst s ws) <= p s + wk T s ws := by
    intro ws
    induction ws with
    | nil => intro s _ _; show p s <= p s + 0; omega
    | cons w r ih =>
      intro s hs hw;have hw' := hw w ZA;have h1 := ih w hw' fun x hx => hw x (Zv _ hx)
      have h2 := hp s w hs hw'
      show p (lst w r) <= p s + (T s w + wk T w r)
      omega
  have h1 := gen ws s hs hw;have h2 := hb s hs hS;rw [hto] at h1;omega
structure WsL (H : Hp) (xs : List V) (fs : List (Int × List Nat × Addr)) : Prop where
  len : xs.length = fs.length
  at' : ∀ (t : Nat) e, fs[t]? = some e -> ∃ p, xs[t]? = some (V.ref p) /\ H p = some (.tup [.int e.1, .ref e.2.2]) /\ H e.2.2 = some (.lst ((nI e.2.1).map V.int))
theorem WsL.mono {H H' : Hp} {xs : List V} {fs : List (Int × List Nat × Addr)} (S : Same H H') (h : WsL H xs fs) : WsL H' xs fs := ⟨h.len, fun t e he => by
  obtain ⟨p, a1, a2, a3⟩ := h.at' t e he
  exact ⟨p, a1, S _ _ a2, S _ _ a3⟩⟩
theorem WsL.nil {H : Hp} : WsL H [] [] := ⟨rfl, fun t e he => by simp at he⟩
theorem vo {α : Type} {xs : List α} {x y : α} {t : Nat} (h : (xs ++ [x])[t]? = some y) : xs[t]? = some y \/ (t = xs.length /\ y = x) := by
  by_cases ht : t < xs.length
  . rw [Zg ht] at h
    exact .inl h
  . have ht' : xs.length <= t := ZD.mp ht
    rw [Zf ht'] at h
    have h0 : t - xs.length = 0 := by
      have := (Zc.mp h).1;simp at this; omega
    rw [h0] at h;simp at h;exact .inr ⟨by omega, h.symm⟩
theorem w4 {α : Type} {xs : List α} {y : α} {t : Nat} (h : xs[t]? = some y) : t < xs.length := (Zc.mp h).1
theorem jr {α : Type} {xs : List α} {x d : α} {t : Nat} (h : xs[t]? = some x) : xs.getD t d = x := by rw [Zk, h]; rfl
theorem wz {α : Type} {xs : List α} {t : Nat} (h : t < xs.length) : ∃ y, xs[t]? = some y := ⟨xs[t], by simp [h]⟩
theorem WsL.snoc {H H' : Hp} {xs : List V} {fs : List (Int × List Nat × Addr)} {p l : Addr} {i : Int} {ws : List Nat} (h : WsL H xs fs) (S : Same H H') (hp : H' p = some (.tup [.int i, .ref l])) (hl : H' l = some (.lst ((nI ws).map V.int))) : WsL H' (xs ++ [.ref p]) (fs ++ [(i, ws, l)]) := by
  refine ⟨by simp [h.len], fun t e he => ?_⟩
  rcases vo he with z | ⟨z, rfl⟩
  . obtain ⟨q, a1, a2, a3⟩ := h.at' t e z
    exact ⟨q, by rw [Zg (w4 a1)]; exact a1, S _ _ a2, S _ _ a3⟩
  . refine ⟨p, ?_, hp, hl⟩
    rw [z, Zf (by rw [h.len]; exact Zm _), h.len];simp
def Dis (fs : List (Int × List Nat × Addr)) : Prop := ∀ (t u : Nat) e d, fs[t]? = some e -> fs[u]? = some d -> e.2.2 = d.2.2 -> t = u
theorem Dis.nil : Dis [] := fun t u e d he => by simp at he
theorem Dis.snoc {H : Hp} {xs : List V} {fs : List (Int × List Nat × Addr)} {l : Addr} {i : Int} {ws : List Nat} (h : Dis fs) (w : WsL H xs fs) (hl : H l = none) : Dis (fs ++ [(i, ws, l)]) := by
  have old : ∀ (t : Nat) e, fs[t]? = some e -> e.2.2 ≠ l := fun t e he z => by
    obtain ⟨p, _, _, a3⟩ := w.at' t e he;rw [z, hl] at a3;cases a3
  intro t u e d he hd ee
  rcases vo he with z | ⟨z, rfl⟩ <;> rcases vo hd with z' | ⟨z', rfl⟩
  . exact h t u e d z z' ee
  . exact absurd ee (old t e z)
  . exact absurd ee.symm (old u d z')
  . rw [z, z']
def zc1 (fs : List (Int × List Nat × Addr)) : Prop := ∀ (t : Nat) e, fs[t]? = some e -> ∃ a ws, e.2.1 = a :: ws /\ jt a ws = t /\ ws.length <= 100
structure zeh (T : Nat -> Nat -> Int) (H : Hp) (fs gs : List (Int × List Nat × Addr)) (n : Nat) : Prop where
  len : gs.length = n
  dis : Dis gs
  new : ∀ (t : Nat) e, gs[t]? = some e -> H e.2.2 = none
  min : ∀ (t : Nat) e', gs[t]? = some e' -> ∃ i e, fs[i]? = some e /\ (∀ u d, fs[u]? = some d -> e.1 + T i t <= d.1 + T u t) /\ e'.1 = e.1 + T i t /\ e'.2.1 = e.2.1 ++ [t]
def zac (K : Fg) : Sp := fun vs H Q _ => ∃ (g r : Addr) (rows : List (List Int)) (xs : List V) (fs : List (Int × List Nat × Addr)) (n t : Nat), vs = [.ref g, .ref r, .int t] /\ Gd K H g rows n /\ H r = some (.lst xs) /\ WsL H xs fs /\ fs.length = n /\ zc1 fs /\ t < n /\
  ∀ H' p l i e, Same H H' -> H l = none -> fs[i]? = some e -> (∀ u d, fs[u]? = some d -> e.1 + z7 rows i t <= d.1 + z7 rows u t) -> H' p = some (.tup [.int (e.1 + z7 rows i t), .ref l]) -> H' l = some (.lst ((nI (e.2.1 ++ [t])).map V.int)) -> Q (.ref p) H'
def zbj (K : Fg) : Sp := fun vs H Q _ => ∃ (g r : Addr) (rows : List (List Int)) (xs : List V) (fs : List (Int × List Nat × Addr)) (n : Nat), vs = [.ref g, .ref r] /\ Gd K H g rows n /\ H r = some (.lst xs) /\ WsL H xs fs /\ fs.length = n /\ zc1 fs /\
  ∀ H' r' ys gs, Same H H' -> H' r' = some (.lst ys) -> WsL H' ys gs -> zeh (z7 rows) H fs gs n -> Q (.ref r') H'
def ak : Sp := fun vs H Q _ => ∃ (p q : Addr) (i j : Int) (l m : V), vs = [.ref p, .ref q] /\ H p = some (.tup [.int i, l]) /\ H q = some (.tup [.int j, m]) /\ (j < i -> Q (.ref q) H) /\ (i <= j -> Q (.ref p) H)
section
variable {P : Program} {w : World} {K : Fg} {mg : Str -> Option Value} {base : Heap}
theorem zdl (B : Bt mg) (vn : FnAt P w K mg base "turn" 1 ["grid", "s", "t"] (tm K)) (xb : FnAt P w K mg base "total_of" 1 ["walk"] oa) (D : zf K mg "least_to" uy ["grid", "walks", "t"]) : FnAt P w K mg base "least_to" 3 ["grid", "walks", "t"] (zac K) := by
  refine FnAt.of D sc_least_to (fun vs H Q E h => ?_) (fun f cdv A outer s H vs Q E hr h => ?_)
  . obtain ⟨g, r, rows, xs, fs, n, t, rfl, _⟩ := h
    rfl
  . obtain ⟨g, r, rows, xs, fs, n, t, rfl, G, hr1, W, hlen, hend, ht, q⟩ := h
    have n8 := G.n8;have hxl := W.len;refine ⟨_, (@zi _ _ _ _ _ (w6 (i := 3) ["total", "words"] ["grid", "walks", "t", "longer"] sc_least_to.nd rfl rfl rfl (@yh _ _ _ _ (pv 1)) (fun _ => (rn rfl (y2 (zo (i := 0) (show (["total", "words", "grid", "walks", "t", "longer"] : List Str).Nodup by decide +kernel) rfl (Or.inl rfl)) (y2 (zo (i := 1) (show (["total", "words", "grid", "walks", "t", "longer"] : List Str).Nodup by decide +kernel) rfl (Or.inl rfl)) (@um _))))) (fun _ => (@yc _)) (fun _ => (@y9 _ _ _ _ _ (za (@zl _ _ _ _ _ _ _ _ yp (pv 0) (zj vn (hr.mono (by decide)) rfl (za (pv 2) (za (@zw _ _ _ _ _ _ _ z9 (pv 1) (@cm _ _ _ _ _ _ g6 (@zg _ _ _ _)) (fun _ _ => rfl)) (za (pv 4) (@zb _)))))) (za (@zl _ _ _ _ _ _ _ _ zar (pv 1) (@y8 _ _ _ _ (za (pv 4) (@zb _)))) (@zb _))))) rfl (by decide +kernel) rfl rfl rfl) (@zh _ _ _ (@zm _ _ _ _ (zbw xb (hr.mono (by decide)) rfl rfl B.min rfl (za (pv 3) (@zb _)))))), ?_⟩;rw [show zt ["grid", "walks", "t", "longer"] [V.ref g, V.ref r, V.int t] = [some (V.ref g), some (V.ref r), some (V.int t), none] from rfl];simp only [zc, zd, ↓reduceIte];refine ⟨⟨_, .of hr1⟩, fun d => ?_⟩;refine yo (xs := xs) (fun i ys H2 => Same H H2 /\ ∃ gs, WsL H2 ys gs /\ gs.length = i /\ ∀ (u : Nat) e', gs[u]? = some e' -> H e'.2.2 = none /\ ∃ e, fs[u]? = some e /\ e'.1 = e.1 + z7 rows u t /\ e'.2.1 = e.2.1 ++ [t]) ⟨Same.refl _, [], WsL.nil, rfl, fun u e he => by simp at he⟩ ?_ ?_ ?_
    . rintro i ys H2 hi ⟨S, gs, W2, hl, _⟩
      exact ⟨by rw [W2.len, hl]; exact Zd hi (Zd (show xs.length <= 8 by omega) (by decide)), S.seq (.of hr1)⟩
    . rintro i x ys H2 hx ⟨S, gs, W2, hl, hy⟩
      have hi : i < n := by have := w4 hx; omega
      obtain ⟨e, he⟩ := wz (xs := fs) (t := i) (by omega);obtain ⟨p, a1, a2, a3⟩ := W.at' i e he;rw [hx] at a1;cases a1;obtain ⟨s0, ws, e1, e2, e3⟩ := hend i e he;rw [e1] at a3;have hp2 := S _ _ a2;have hl2 := S _ _ a3;simp only [zc, zd, ↓reduceIte];refine ⟨_, .of hp2, rfl, ?_⟩;simp only [zc, zd, ↓reduceIte];refine ⟨_, .of hl2, _, zcq s0 ws, ?_⟩;rw [e2];refine qi (G.mono S) hi ht ?_;simp only [zc, zd, ↓reduceIte];refine ⟨by show 1 <= sizeLine; decide, fun b hb => ?_⟩;have S1 : Same H2 (upd H2 b (.lst [V.int t])) := Same.upd (Same.refl _) hb;refine ⟨_, S1 _ _ hl2, _, ze, ?_, fun c hc => ⟨by show 2 <= sizeLine; decide, fun z hz => ?_⟩⟩
      . simp only [nI, Za, ZL, Ym]
        exact Zd (show ws.length + 1 + 1 <= 102 by omega) (by decide)
      . have S2 : Same (upd H2 b (.lst [V.int t])) (upd (upd H2 b (.lst [V.int t])) c (.lst ((nI (s0 :: ws)).map V.int ++ [V.int t]))) := Same.upd (Same.refl _) hc
        have hc2 : upd (upd H2 b (.lst [V.int t])) c (.lst ((nI (s0 :: ws)).map V.int ++ [V.int t])) c = some (.lst ((nI (e.2.1 ++ [t])).map V.int)) := by rw [ze, zbv, e1]
        have hcH : H c = none := (S.trans S1).free hc;have S3 := Same.upd (o := .tup [V.int (e.1 + z7 rows i t), V.ref c]) (Same.refl (upd (upd H2 b (.lst [V.int t])) c (.lst ((nI (s0 :: ws)).map V.int ++ [V.int t])))) hz;have SS := S1.trans (S2.trans S3);refine ⟨S.trans SS, gs ++ [(e.1 + z7 rows i t, e.2.1 ++ [t], c)], W2.snoc SS ze (S3 _ _ hc2), by simp [hl], fun u e' hu => ?_⟩
        rcases vo hu with y | ⟨y, rfl⟩
        . exact hy u e' y
        . rw [y, hl]
          exact ⟨hcH, e, he, rfl, rfl⟩
    . rintro ys H2 ⟨S, gs, W2, hl, hy⟩ lo hlo
      have S1 : Same H2 (upd H2 lo (.lst ys)) := Same.upd (Same.refl _) hlo;have hyl := W2.len;refine ⟨ys, .of ze, by omega, fun u => (gs.getD u (0, [], 0)).1, fun i x hx => ?_, fun i x hx hm => ?_⟩
      . obtain ⟨e', he'⟩ := wz (xs := gs) (t := i) (by have := w4 hx; omega)
        obtain ⟨p, a1, a2, a3⟩ := W2.at' i e' he';rw [hx] at a1;cases a1;refine ⟨p, _, _, rfl, S1 _ _ a2, ?_, rfl⟩
        show V.int e'.1 = V.int (gs.getD i (0, [], 0)).1
        rw [jr he']
      . obtain ⟨e', he'⟩ := wz (xs := gs) (t := i) (by have := w4 hx; omega)
        obtain ⟨p, a1, a2, a3⟩ := W2.at' i e' he';rw [hx] at a1;cases a1;obtain ⟨h0, e, b1, b2, b3⟩ := hy i e' he';rw [b2] at a2;rw [b3] at a3;refine q _ p e'.2.2 i e (S.trans S1) h0 b1 (fun u d hu => ?_) (S1 _ _ a2) (S1 _ _ a3);obtain ⟨d', hd'⟩ := wz (xs := gs) (t := u) (by have := w4 hu; omega);obtain ⟨_, d2, c1, c2, c3⟩ := hy u d' hd';rw [hu] at c1;cases c1;have z := (hm u (by have := w4 hu; omega)).1;have z' : (gs.getD i (0, [], 0)).1 <= (gs.getD u (0, [], 0)).1 := z;rw [jr he', jr hd'] at z';omega
theorem ai (B : Bt mg) (tw : FnAt P w K mg base "least_to" 3 ["grid", "walks", "t"] (zac K)) (D : zf K mg "lengthened" vj ["grid", "walks"]) : FnAt P w K mg base "lengthened" 4 ["grid", "walks"] (zbj K) := by
  refine FnAt.of D k6 (fun vs H Q E h => ?_) (fun f cdv A outer s H vs Q E hr h => ?_)
  . obtain ⟨g, r, rows, xs, fs, n, rfl, _⟩ := h
    rfl
  . obtain ⟨g, r, rows, xs, fs, n, rfl, G, hr1, W, hlen, hend, q⟩ := h
    have n8 := G.n8;refine ⟨_, (@zh _ _ _ (@zm _ _ _ _ (yk ["t"] ["grid", "walks"] rfl (yi rfl B.range (za (zn zq rfl B.len ye (za (pv 0) (@zb _))) (@zb _))) (fun _ => (zo (i := 0) (show (["t", "grid", "walks"] : List Str).Nodup by decide +kernel) rfl (Or.inl rfl))) (fun _ => (@yc _)) (fun _ => (zj tw (hr.mono (by decide)) rfl (za (pv 1) (za (pv 2) (za (pv 0) (@zb _)))))) rfl (by decide +kernel) rfl rfl))), ?_⟩;rw [show zt ["grid", "walks"] [V.ref g, V.ref r] = [some (V.ref g), some (V.ref r)] from rfl];simp only [zc, zd, ↓reduceIte];obtain ⟨as, h1, h2⟩ := G.ex;refine ⟨_, .inl h1.1, ?_⟩;rw [Za, h2];refine ⟨by omega, by omega, fun d => ?_⟩;rw [Zw];refine y7 (fun i ys H2 => Same H H2 /\ ∃ gs, WsL H2 ys gs /\ zeh (z7 rows) H fs gs i) ⟨Same.refl _, [], WsL.nil, rfl, Dis.nil, fun t e he => by simp at he, fun t e he => by simp at he⟩ ?_ ?_ ?_
    . rintro i ys H' hi ⟨S, gs, W2, L⟩
      rw [W2.len, L.len];exact Zd hi (Zd n8 (by decide))
    . rintro i ys H' hi ⟨S, gs, W2, L⟩
      simp only [zc, zd, ↓reduceIte];refine ⟨g, r, rows, xs, fs, n, i, rfl, G.mono S, S _ _ hr1, W.mono S, hlen, hend, hi, fun H2 p l j e S2 hl hj hm hp hl2 => ?_⟩;refine ⟨S.trans S2, gs ++ [(e.1 + z7 rows j i, e.2.1 ++ [i], l)], W2.snoc S2 hp hl2, by simp [L.len], L.dis.snoc W2 hl, fun t e' he' => ?_, fun t e' he' => ?_⟩
      . rcases vo he' with y | ⟨y, rfl⟩
        . exact L.new t e' y
        . exact S.free hl
      . rcases vo he' with y | ⟨y, rfl⟩
        . exact L.min t e' y
        . rw [y, L.len]
          exact ⟨j, e, hj, hm, rfl, rfl⟩
    . rintro ys H' ⟨S, gs, W2, L⟩ l hl
      have S1 : Same H' (upd H' l (.lst ys)) := Same.upd (Same.refl _) hl;exact q _ l ys gs (S.trans S1) ze (W2.mono S1) L
theorem ij (xb : FnAt P w K mg base "total_of" 1 ["walk"] oa) (D : zf K mg "lesser" l6 ["walk", "longer"]) : FnAt P w K mg base "lesser" 2 ["walk", "longer"] ak := by
  refine FnAt.of D ze5 (fun vs H Q E h => ?_) (fun f cdv A outer s H vs Q E hr h => ?_)
  . obtain ⟨p, q, i, j, l, m, rfl, _⟩ := h
    rfl
  . obtain ⟨p, q, i, j, l, m, rfl, hp, hq, q1, q2⟩ := h
    refine ⟨_, (@zh _ _ _ (@zm _ _ _ _ (@zgf _ _ _ _ _ _ _ _ (@yv _ _ _ _ _ _ _ _ gz (zj xb (hr.mono (by decide)) rfl (za (pv 1) (@zb _))) (zj xb (hr.mono (by decide)) rfl (za (pv 0) (@zb _))) (yq _)) (pv 1) (pv 0)))), ?_⟩;rw [show zt ["walk", "longer"] [V.ref p, V.ref q] = [some (V.ref p), some (V.ref q)] from rfl];simp only [zc, zd, ↓reduceIte];refine ⟨q, j, m, rfl, hq, ?_⟩;simp only [zc, zd, ↓reduceIte];refine ⟨p, i, l, rfl, hp, ?_⟩;simp only [zc, zd, ↓reduceIte];exact ite2 (fun h => q1 (of_decide_eq_true h)) fun h => q2 (Int.not_lt.mp fun z => h (decide_eq_true z))
end
def fOf (fs : List (Int × List Nat × Addr)) (t : Nat) : Int × List Nat := ((fs.getD t (0, [], 0)).1, (fs.getD t (0, [], 0)).2.1)
theorem we {fs : List (Int × List Nat × Addr)} {t : Nat} {e : Int × List Nat × Addr} (h : fs[t]? = some e) : fOf fs t = (e.1, e.2.1) := by unfold fOf; rw [jr h]
theorem Rds.endOk {T : Nat -> Nat -> Int} {b : Nat -> Int} {S : Nat -> Prop} {n k : Nat} {fs : List (Int × List Nat × Addr)} (R : Rds T b S n k (fOf fs)) (hl : fs.length = n) (hk : k <= 100) : zc1 fs := fun t e he => by
  obtain ⟨s, ws, e1, hS, hs, hto, hw, hv, hd, hk2⟩ := (R.rd t (by have := w4 he; omega)).ex;rw [we he] at e1;exact ⟨s, ws, e1, by rw [<- zdk]; exact hto, by omega⟩
structure Told (T : Nat -> Nat -> Int) (b : Nat -> Int) (S : Nat -> Prop) (n k : Nat) (fs gs : List (Int × List Nat × Addr)) : Prop where
  len : gs.length = n
  dis : Dis gs
  rds : Rds T b S n k (fOf gs)
  le : ∀ t, t < n -> (fOf gs t).1 <= (fOf fs t).1
def zb6 (K : Fg) : Sp := fun vs H Q _ => ∃ (g r : Addr) (rows : List (List Int)) (xs : List V) (fs : List (Int × List Nat × Addr)) (n k : Nat) (b : Nat -> Int) (S : Nat -> Prop), vs = [.ref g, .ref r] /\ Gd K H g rows n /\ 0 < n /\ (∀ k, NoNeg (z7 rows) n k) /\ H r = some (.lst xs) /\ WsL H xs fs /\
  fs.length = n /\ Dis fs /\ Rds (z7 rows) b S n k (fOf fs) /\ k <= 1 /\ ∀ H' r' ys gs, Same H H' -> H' r' = some (.lst ys) -> WsL H' ys gs -> Told (z7 rows) b S n (k + (n - 1)) fs gs -> Q (.ref r') H'
def PvMix (H3 : Hp) (gs hs : List (Int × List Nat × Addr)) (i : Nat) (vs : List V) (H4 : Hp) : Prop := Same H3 H4 /\ ∃ ks, WsL H4 vs ks /\ ks.length = i /\ ∀ (t : Nat) e, ks[t]? = some e -> ∃ d e', gs[t]? = some d /\ hs[t]? = some e' /\ ((e'.1 < d.1 /\ e = e') \/ (d.1 <= e'.1 /\ e = d))
def zhp (H : Hp) (g : Addr) (T : Nat -> Nat -> Int) (b : Nat -> Int) (S : Nat -> Prop) (n k : Nat) (fs : List (Int × List Nat × Addr)) (i : Nat) (σ : L2.St) (H2 : Hp) : Prop := Same H H2 /\ ∃ r' ys gs v2, σ = [some (.ref g), some (.ref r'), v2] /\ H2 r' = some (.lst ys) /\ WsL H2 ys gs /\ Told T b S n (k + i) fs gs
section
variable {P : Program} {w : World} {K : Fg} {mg : Str -> Option Value} {base : Heap}
theorem qk (B : Bt mg) (vm : FnAt P w K mg base "lengthened" 4 ["grid", "walks"] (zbj K)) (ij : FnAt P w K mg base "lesser" 2 ["walk", "longer"] ak) (D : zf K mg "least_roads" uj ["grid", "walks"]) : FnAt P w K mg base "least_roads" 5 ["grid", "walks"] (zb6 K) := by
  refine FnAt.of D sc_least_roads (fun vs H Q E h => ?_) (fun f cdv A outer s H vs Q E hr h => ?_)
  . obtain ⟨g, r, rows, xs, fs, n, k, b, S, rfl, _⟩ := h
    rfl
  . obtain ⟨g, r, rows, xs, fs, n, k, b, Sd, rfl, G, hn, no, hr1, W, hlen, hdis, R, hk, q⟩ := h
    have n8 := G.n8;refine ⟨_, (@zi _ _ _ _ _ (yw PassesOwn.never rfl (jm rfl B.range (za (@zg _ _ _ _) (za (@zl _ _ _ _ _ _ _ _ yp (zn zq rfl B.len ye (za (pv 0) (@zb _))) (@zg _ _ _ _)) (@zb _)))) (zo (i := 2) sc_least_roads.nd rfl (Or.inl rfl)) (@zh _ _ _ (w6 (i := 1) ["walk", "longer"] ["grid", "walks", "size"] sc_least_roads.nd rfl rfl rfl (pi_zip rfl B.zip (za (pv 1) (za (zj vm (hr.mono (by decide)) rfl (za (pv 0) (za (pv 1) (@zb _)))) (@zb _)))) (fun _ => (rn rfl (y2 (zo (i := 0) (show (["walk", "longer", "grid", "walks", "size"] : List Str).Nodup by decide +kernel) rfl (Or.inl rfl)) (y2 (zo (i := 1) (show (["walk", "longer", "grid", "walks", "size"] : List Str).Nodup by decide +kernel) rfl (Or.inl rfl)) (@um _))))) (fun _ => (@yc _)) (fun _ => (zj ij (hr.mono (by decide)) rfl (za (pv 0) (za (pv 1) (@zb _))))) rfl (by decide +kernel) rfl rfl rfl))) (@zh _ _ _ (@zm _ _ _ _ (pv 1)))), ?_⟩;rw [show zt ["grid", "walks", "size"] [V.ref g, V.ref r] = [some (V.ref g), some (V.ref r), none] from rfl];simp only [zc, zd, ↓reduceIte];obtain ⟨as, h1, h2⟩ := G.ex;refine ⟨_, .inl h1.1, ?_⟩;rw [Za, h2];refine ⟨by omega, by omega, by omega, by omega, ?_⟩;rw [show ((n : Int) + 1 - 2).toNat = n - 1 by omega];refine xh (zhp H g (z7 rows) b Sd n k fs) ⟨Same.refl _, r, xs, fs, _, rfl, hr1, W, hlen, hdis, R, fun t ht => Yt _⟩ ?_ ?_
    . rintro i σ H2 hi ⟨S2, r', ys, gs, v2, rfl, hr2, W2, Td⟩
      have lg := Td.len;have ly := W2.len;have le := Td.le;simp only [zc, zd, ↓reduceIte];refine ⟨g, r', rows, ys, gs, n, rfl, G.mono S2, hr2, W2, lg, Td.rds.endOk lg (by omega), fun H3 r3 zs hs S3 hr3 W3 L => ?_⟩;have lh := L.len;have lz := W3.len;simp only [zc, zd, ↓reduceIte];refine ⟨⟨_, .of (S3 _ _ hr2)⟩, ⟨_, .of hr3⟩, fun d => ?_⟩;refine zgn (xs := ys) (zs := zs) (PvMix H3 gs hs) ⟨Same.refl _, [], WsL.nil, rfl, fun t e he => by simp at he⟩ ?_ ?_ ?_
      . rintro j vs H4 hj ⟨S4, ks, W4, lk, _⟩
        refine ⟨?_, (S3.trans S4).seq (.of hr2), S4.seq (.of hr3)⟩;rw [W4.len, lk];exact Zd hj (Zd (Nat.min_le_left _ _) (Zd (show ys.length <= 8 by omega) (by decide)))
      . rintro j x z vs H4 U hx hz hU ⟨S4, ks, W4, lk, hks⟩
        obtain ⟨d1, hd1⟩ := wz (xs := gs) (t := j) (by have := w4 hx; omega);obtain ⟨e1, he1⟩ := wz (xs := hs) (t := j) (by have := w4 hz; omega);obtain ⟨p, a1, a2, a3⟩ := W2.at' j d1 hd1;obtain ⟨p', b1, b2, b3⟩ := W3.at' j e1 he1;rw [hx] at a1;cases a1;rw [hz] at b1;cases b1;have SU : Same H4 (upd H4 U (.tup [V.ref p, V.ref p'])) := Same.upd (Same.refl _) hU;simp only [zc, zd, ↓reduceIte];refine ⟨_, .of ze, rfl, ?_⟩;simp only [zc, zd, ↓reduceIte];generalize upd H4 U (.tup [V.ref p, V.ref p']) = H5 at *;have S35 := S4.trans SU;have S25 := S3.trans S35;refine ⟨p, p', _, _, _, _, rfl, S25 _ _ a2, S35 _ _ b2, fun hlt => ?_, fun hle => ?_⟩
        . refine ⟨S35, ks ++ [e1], W4.snoc SU (S35 _ _ b2) (S35 _ _ b3), by simp [lk], fun t e he => ?_⟩
          rcases vo he with y | ⟨y, rfl⟩
          . exact hks t e y
          . rw [y, lk]
            exact ⟨d1, _, hd1, he1, .inl ⟨hlt, rfl⟩⟩
        . refine ⟨S35, ks ++ [d1], W4.snoc SU (S25 _ _ a2) (S25 _ _ a3), by simp [lk], fun t e he => ?_⟩
          rcases vo he with y | ⟨y, rfl⟩
          . exact hks t e y
          . rw [y, lk]
            exact ⟨_, e1, hd1, he1, .inr ⟨hle, rfl⟩⟩
      . rintro vs H4 ⟨S4, ks, W4, lk, hks⟩ l hl
        have lk' : ks.length = n := by rw [lk]; omega
        have S5 : Same H4 (upd H4 l (.lst vs)) := Same.upd (Same.refl _) hl;refine ⟨S2.trans (S3.trans (S4.trans S5)), l, vs, ks, _, rfl, ze, W4.mono S5, lk', ?_, ?_, fun t ht => ?_⟩
        . intro t u e d he hd ee
          obtain ⟨d1, e1, c1, c2, c3⟩ := hks t e he;obtain ⟨d2, e2, c4, c5, c6⟩ := hks u d hd
          rcases c3 with ⟨_, rfl⟩ | ⟨_, rfl⟩ <;> rcases c6 with ⟨_, rfl⟩ | ⟨_, rfl⟩
          . exact L.dis t u _ _ c2 c5 ee
          . obtain ⟨_, _, _, x3⟩ := W2.at' u _ c4
            rw [<- ee, L.new t _ c2] at x3;cases x3
          . obtain ⟨_, _, _, x3⟩ := W2.at' t _ c1
            rw [ee, L.new u _ c5] at x3;cases x3
          . exact Td.dis t u _ _ c1 c4 ee
        . refine Td.rds.step no fun t ht => ?_
          obtain ⟨e, he⟩ := wz (xs := ks) (t := t) (by omega);obtain ⟨d1, e1, c1, c2, c3⟩ := hks t e he;obtain ⟨i2, e2, x1, x2, x3, x4⟩ := L.min t e1 c2;refine ⟨i2, by have := w4 x1; omega, fun u hu => ?_, ?_⟩
          . obtain ⟨d, hd⟩ := wz (xs := gs) (t := u) (by omega)
            rw [we x1, we hd];exact x2 u d hd
          . rw [we x1, we c1, we he]
            rcases c3 with ⟨y, rfl⟩ | ⟨y, rfl⟩
            . left
              rw [x3] at y;exact ⟨y, by rw [x3, x4]⟩
            . right
              rw [x3] at y;exact ⟨y, rfl⟩
        . obtain ⟨e, he⟩ := wz (xs := ks) (t := t) (by omega)
          obtain ⟨d1, e1, c1, c2, c3⟩ := hks t e he;have z := le t ht;rw [we c1] at z;rw [we he];have z' : d1.1 <= (fOf fs t).1 := z
          show e.1 <= _
          rcases c3 with ⟨y, rfl⟩ | ⟨y, rfl⟩
          . omega
          . exact z'
    . rintro σ H2 ⟨S2, r', ys, gs, v2, rfl, hr2, W2, Td⟩
      simp only [zc, zd, ↓reduceIte];exact q H2 r' ys gs S2 hr2 W2 Td
end
structure ToldAt (H : Hp) (v : V) (gs : List (Int × List Nat × Addr)) : Prop where
  ex : ∃ tp pl rl, v = V.ref tp /\ H tp = some (.tup [.ref pl, .ref rl]) /\ H pl = some (.lst ((gs.map fun e => e.1).map V.int)) /\ H rl = some (.lst (gs.map fun e => V.ref e.2.2))
  road : ∀ e ∈ gs, H e.2.2 = some (.lst ((nI e.2.1).map V.int))
def ik (a : Ad) (K : Fg) : Sp := fun vs H Q E => ∃ (g : Addr) (rows : List (List Int)) (n : Nat), vs = [.ref g] /\ Gd K H g rows n /\ 0 < n /\ (∀ H', Same H H' -> (∀ j, j <= n -> NoNeg (z7 rows) n j) -> Q .non H') /\
  ∀ H' c, Same H H' -> RingA (z7 rows) n c -> E (.ref a.NoPays) none H'
def PvTot (H3 : Hp) (gs : List (Int × List Nat × Addr)) (i : Nat) (ys : List V) (H4 : Hp) : Prop := H4 = H3 /\ ys = ((gs.take i).map fun e => e.1).map V.int
def PvWds (H3 : Hp) (gs : List (Int × List Nat × Addr)) (i : Nat) (ys : List V) (H4 : Hp) : Prop := H4 = H3 /\ ys = (gs.take i).map fun e => V.ref e.2.2
def PvOne (H : Hp) (b : Nat -> Int) (i : Nat) (ys : List V) (H4 : Hp) : Prop := Same H H4 /\ ∃ gs, WsL H4 ys gs /\ gs.length = i /\ Dis gs /\ ∀ t, t < i -> fOf gs t = (b t, [t])
section
variable {P : Program} {w : World} {K : Fg} {mg : Str -> Option Value} {base : Heap} {a : Ad}
theorem x8 (B : Bt mg) (C : Ct K mg a) (jo : FnAt P w K mg base "ring" 5 ["grid"] (zaa K)) (D : zf K mg "refuse_ring" ue ["grid"]) : FnAtX P w K mg base "refuse_ring" 6 ["grid"] (ik a K) := by
  refine FnAtX.of D el (fun vs H Q E h => ?_) (fun f cdv A outer s H vs Q E hr h => ?_)
  . obtain ⟨g, rows, n, rfl, _⟩ := h
    rfl
  . obtain ⟨g, rows, n, rfl, G, hn, q0, q1⟩ := h
    refine ⟨_, (@zh _ _ _ (@yz _ _ _ _ _ _ _ _ (@yv _ _ _ _ _ _ _ _ fu (zj jo (hr.mono (by decide)) rfl (za (pv 0) (@zb _))) (@uc _ _ _) (yq _)) (@zh _ _ _ (zab rfl C.q_NoPays.toErr rfl C.m_NoPays (j3 rfl) (za (@qc _ _ _ _) (@zb _)))) (@yf _))), ?_⟩;rw [show zt ["grid"] [V.ref g] = [some (V.ref g)] from rfl];simp only [zc, zd, ↓reduceIte];refine ⟨g, rows, n, rfl, G, hn, fun H1 S1 no => ?_, fun H1 l c S1 hl R => ?_⟩
    . simp only [zc, zd, ↓reduceIte]
      exact ite2 (fun z => absurd z (by simp)) fun _ => q0 H1 S1 no
    . simp only [zc, zd, ↓reduceIte]
      exact ite2 (fun _ => ⟨by decide, q1 H1 c S1 R⟩) fun z => (z (by simp)).elim
end
structure Great (rows : List (List Int)) (n : Nat) (gs : List (Int × List Nat × Addr)) : Prop where
  len : gs.length = n
  dis : Dis gs
  no : ∀ k, NoNeg (z7 rows) n k
  rds : Rds (z7 rows) (fun t => gcA rows t t) (fun _ => True) n (n - 1) (fOf gs)
  le : ∀ t, t < n -> (fOf gs t).1 <= gcA rows t t
def jv (a : Ad) (K : Fg) : Sp := fun vs H Q E => ∃ (g : Addr) (rows : List (List Int)) (n : Nat), vs = [.ref g] /\ Gd K H g rows n /\ 0 < n /\ (∀ H' v gs, Same H H' -> ToldAt H' v gs -> Great rows n gs -> Q v H') /\
  ∀ H' c, Same H H' -> RingA (z7 rows) n c -> E (.ref a.NoPays) none H'
section
variable {P : Program} {w : World} {K : Fg} {mg : Str -> Option Value} {base : Heap} {a : Ad}
theorem wu (B : Bt mg) (C : Ct K mg a) (x8 : FnAtX P w K mg base "refuse_ring" 6 ["grid"] (ik a K)) (qk : FnAt P w K mg base "least_roads" 5 ["grid", "walks"] (zb6 K)) (xb : FnAt P w K mg base "total_of" 1 ["walk"] oa) (tj : FnAt P w K mg base "words_of" 1 ["walk"] k9)
    (D : zf K mg "greatest" qt ["grid"]) : FnAtX P w K mg base "greatest" 7 ["grid"] (jv a K) := by
  refine FnAtX.of D sc_greatest (fun vs H Q E h => ?_) (fun f cdv A outer s H vs Q E hr h => ?_)
  . obtain ⟨g, rows, n, rfl, _⟩ := h
    rfl
  . obtain ⟨g, rows, n, rfl, G, hn, q0, q1⟩ := h
    have n8 := G.n8;refine ⟨_, (@zi _ _ _ _ _ (wn (oz x8 (hr.mono (by decide)) (kj rfl) rfl (za (pv 0) (@zb _)))) (@zi _ _ _ _ _ (PS.nox (zy (i := 1) sc_greatest.nd rfl (Or.inl rfl) (zj qk (hr.mono (by decide)) rfl (za (pv 0) (za (yk ["t"] ["grid", "walks"] rfl (yi rfl B.range (za (zn zq rfl B.len ye (za (pv 0) (@zb _))) (@zb _))) (fun _ => (zo (i := 0) (show (["t", "grid", "walks"] : List Str).Nodup by decide +kernel) rfl (Or.inl rfl))) (fun _ => (@yc _)) (fun _ => (@y9 _ _ _ _ _ (@za _ _ _ _ _ (@zw _ _ _ _ _ _ _ z9 (@zw _ _ _ _ _ _ _ z9 (pv 1) (pv 0) (fun _ _ => rfl)) (pv 0) (fun _ _ => rfl)) (@za _ _ _ _ _ (@y8 _ _ _ _ (@za _ _ _ _ _ (pv 0) (@zb _) (z8 nofun))) (@zb _) (z8 nofun)) (z8 nofun)))) rfl (by decide +kernel) rfl rfl) (@zb _)))))) (@zh _ _ _ (PS.nox (@zm _ _ _ _ (@y9 _ _ _ _ _ (za (yk ["walk"] ["grid", "walks"] rfl (@yh _ _ _ _ (pv 1)) (fun _ => (zo (i := 0) (show (["walk", "grid", "walks"] : List Str).Nodup by decide +kernel) rfl (Or.inl rfl))) (fun _ => (@yc _)) (fun _ => (zj xb (hr.mono (by decide)) rfl (za (pv 0) (@zb _)))) rfl (by decide +kernel) rfl rfl) (za (yk ["walk"] ["grid", "walks"] rfl (@yh _ _ _ _ (pv 1)) (fun _ => (zo (i := 0) (show (["walk", "grid", "walks"] : List Str).Nodup by decide +kernel) rfl (Or.inl rfl))) (fun _ => (@yc _)) (fun _ => (zj tj (hr.mono (by decide)) rfl (za (pv 0) (@zb _)))) rfl (by decide +kernel) rfl rfl) (@zb _))))))))), ?_⟩;rw [show zt ["grid", "walks"] [V.ref g] = [some (V.ref g), none] from rfl];simp only [zc, zd, ↓reduceIte];refine ⟨g, rows, n, rfl, G, hn, fun H1 S1 no => ?_, fun H1 c S1 R => q1 H1 c S1 R⟩;have no' := NoNeg.all no;simp only [zc, zd, ↓reduceIte];obtain ⟨as, h1, h2⟩ := (G.mono S1).ex;refine ⟨_, .inl h1.1, ?_⟩;rw [Za, h2];refine ⟨by omega, by omega, fun d => ?_⟩;rw [Zw];refine y7 (PvOne H1 fun t => gcA rows t t) ⟨Same.refl _, [], WsL.nil, rfl, Dis.nil, fun t ht => by omega⟩ ?_ ?_ ?_
    . rintro i ys H2 hi ⟨S2, gs, W2, lg, _⟩
      rw [W2.len, lg];exact Zd hi (Zd n8 (by decide))
    . rintro i ys H2 hi ⟨S2, gs, W2, lg, hd, hf⟩
      obtain ⟨ns', e1, l1⟩ := G.sq i hi;have G2 := GridL.mono S2 h1;obtain ⟨r, k1, k2⟩ := kg G2 e1;simp only [zc, zd, ↓reduceIte];refine ⟨_, G2.1, _, k1, r, rfl, _, k2, _, wa (p8 e1 (by omega)), by show 1 <= sizeLine; decide, fun l hl => ⟨by show 2 <= sizeLine; decide, fun p hp => ?_⟩⟩;have S3 : Same H2 (upd H2 l (.lst [V.int i])) := Same.upd (Same.refl _) hl;have hl3 : upd H2 l (.lst [V.int i]) l = some (.lst ((nI [i]).map V.int)) := ze;generalize upd H2 l (.lst [V.int i]) = H3 at *;have S4 : Same H3 (upd H3 p (.tup [V.int (gcA rows i i), V.ref l])) := Same.upd (Same.refl _) hp;have hp4 : upd H3 p (.tup [V.int (gcA rows i i), V.ref l]) p = some (.tup [V.int (gcA rows i i), V.ref l]) := ze;generalize upd H3 p (.tup [V.int (gcA rows i i), V.ref l]) = H4 at *;refine ⟨S2.trans (S3.trans S4), gs ++ [(gcA rows i i, [i], l)], W2.snoc (S3.trans S4) hp4 (S4 _ _ hl3), by simp [lg], hd.snoc W2 hl, fun t ht => ?_⟩
      by_cases e : t < i
      . rw [<- hf t e]
        unfold fOf;rw [Zk, Zg (by omega), <- Zk]
      . have : t = i := by omega
        subst this;rw [we (e := (gcA rows t t, [t], l)) (by rw [Zf (by omega), lg]; simp)]
    . rintro ys H2 ⟨S2, gs, W2, lg, hd, hf⟩ l hl
      have S3 : Same H2 (upd H2 l (.lst ys)) := Same.upd (Same.refl _) hl;have hl3 : upd H2 l (.lst ys) l = some (.lst ys) := ze;generalize upd H2 l (.lst ys) = H3 at *;have S13 := S1.trans (S2.trans S3);refine ⟨g, l, rows, ys, gs, n, 0, _, _, rfl, G.mono S13, hn, no', hl3, W2.mono S3, lg, hd, Rds.one hf, by omega, fun H4 r4 zs hs S4 hr4 W4 Td => ?_⟩;have lz := W4.len;have lh := Td.len;simp only [zc, zd, ↓reduceIte];refine ⟨⟨_, .of hr4⟩, fun d2 => ?_⟩;refine yo (xs := zs) (PvTot H4 hs) ⟨rfl, rfl⟩ ?_ ?_ ?_
      . rintro i ys5 H5 hi ⟨rfl, rfl⟩
        refine ⟨?_, .of hr4⟩;rw [Za, Za, Zj];exact Zd (ZB _ _) (Zd (show hs.length <= 8 by omega) (by decide))
      . rintro i x ys5 H5 hx ⟨rfl, rfl⟩
        obtain ⟨e, he⟩ := wz (xs := hs) (t := i) (by have := w4 hx; omega);obtain ⟨p, a1, a2, a3⟩ := W4.at' i e he;rw [hx] at a1;cases a1;simp only [zc, zd, ↓reduceIte];refine ⟨p, _, _, rfl, a2, rfl, ?_⟩;rw [Zq, he];simp
      . rintro ys5 H5 ⟨rfl, rfl⟩ pl hpl
        rw [lz, Zt];have S6 : Same H5 (upd H5 pl (.lst ((hs.map fun e => e.1).map V.int))) := Same.upd (Same.refl _) hpl;have hp6 : upd H5 pl (.lst ((hs.map fun e => e.1).map V.int)) pl = some (.lst ((hs.map fun e => e.1).map V.int)) := ze;generalize upd H5 pl (.lst ((hs.map fun e => e.1).map V.int)) = H6 at *;refine ⟨⟨_, S6.seq (.of hr4)⟩, fun d3 => ?_⟩;refine yo (xs := zs) (PvWds H6 hs) ⟨rfl, rfl⟩ ?_ ?_ ?_
        . rintro i ys5 H5 hi ⟨rfl, rfl⟩
          refine ⟨?_, S6.seq (.of hr4)⟩;rw [Za, Zj];exact Zd (ZB _ _) (Zd (show hs.length <= 8 by omega) (by decide))
        . rintro i x ys5 H5 hx ⟨rfl, rfl⟩
          obtain ⟨e, he⟩ := wz (xs := hs) (t := i) (by have := w4 hx; omega);obtain ⟨p, a1, a2, a3⟩ := W4.at' i e he;rw [hx] at a1;cases a1;simp only [zc, zd, ↓reduceIte];refine ⟨p, _, _, rfl, S6 _ _ a2, rfl, ?_⟩;rw [Zq, he];simp
        . rintro ys7 H7 ⟨rfl, rfl⟩ rl hrl
          rw [lz, Zt];have S7 : Same H7 (upd H7 rl (.lst (hs.map fun e => V.ref e.2.2))) := Same.upd (Same.refl _) hrl;have hr7 : upd H7 rl (.lst (hs.map fun e => V.ref e.2.2)) rl = some (.lst (hs.map fun e => V.ref e.2.2)) := ze;generalize upd H7 rl (.lst (hs.map fun e => V.ref e.2.2)) = H8 at *;refine ⟨by show 2 <= sizeLine; decide, fun tp htp => ?_⟩;have S9 : Same H8 (upd H8 tp (.tup [V.ref pl, V.ref rl])) := Same.upd (Same.refl _) htp;have ht9 : upd H8 tp (.tup [V.ref pl, V.ref rl]) tp = some (.tup [V.ref pl, V.ref rl]) := ze;generalize upd H8 tp (.tup [V.ref pl, V.ref rl]) = H9 at *;have S79 := S7.trans S9;refine q0 H9 _ hs (S13.trans (S4.trans (S6.trans S79))) ⟨⟨tp, pl, rl, rfl, ht9, S79 _ _ hp6, S9 _ _ hr7⟩, fun e he => ?_⟩ ⟨lh, Td.dis, no', by have := Td.rds; rw [Nat.zero_add] at this; exact this, fun t ht => ?_⟩
          . obtain ⟨t, ht, rfl⟩ := Zy he
            obtain ⟨p, a1, a2, a3⟩ := W4.at' t hs[t] (by simp [ht]);exact (S6.trans S79) _ _ a3
          . have := Td.le t ht
            rw [hf t ht] at this;exact this
end
def Hon (rows : List (List Int)) (ps : List Int) (n : Nat) : Prop := ∀ t s : Nat, t < n -> s < n -> gcA rows t s - gcA rows t t <= ps.getD s 0 - ps.getD t 0
theorem zbu {gs : List (Int × List Nat × Addr)} {t : Nat} (h : t < gs.length) : (gs.map fun e => e.1).getD t 0 = (fOf gs t).1 := by
  obtain ⟨e, he⟩ := wz h;rw [we he, Zk, Ze, he];rfl
theorem Great.hon {rows : List (List Int)} {n : Nat} {gs : List (Int × List Nat × Addr)} (g : Great rows n gs) : Hon rows (gs.map fun e => e.1) n := fun t s ht hs => by
  have lg := g.len;rw [zbu (by omega), zbu (by omega)];have := g.rds.honest g.no (by omega) hs ht;unfold z7 at this;omega
theorem Great.most {rows : List (List Int)} {n : Nat} {gs : List (Int × List Nat × Addr)} (g : Great rows n gs) {ds : List Int} {m : Int} (h : Hon rows ds n) (hm : ∀ t, t < n -> ds.getD t 0 - gcA rows t t <= m) {t : Nat} (ht : t < n) : ds.getD t 0 - m <= (fOf gs t).1 := by
  refine (g.rds.rd t ht).most (p := fun t => ds.getD t 0 - m) (fun s t hs ht => ?_) (fun s hs _ => ?_)
  . have := h t s ht hs
    show ds.getD t 0 - m - (ds.getD s 0 - m) <= z7 rows s t
    unfold z7;omega
  . have := hm s hs
    show ds.getD s 0 - m <= gcA rows s s
    omega
def d0 : Sp := fun vs H Q _ => ∃ (c : Addr) (r : List Str) (k : Nat) (z : Str), vs = [.ref c, .int k, .str z] /\ H c = some (.tup (r.map V.str)) /\ k <= r.length /\ r.length <= 8 /\ ∀ H' p, Same H H' -> H' p = some (.tup ((insP r k z).map V.str)) -> Q (.ref p) H'
section
variable {P : Program} {w : World} {K : Fg} {mg : Str -> Option Value} {base : Heap} {a : Ad}
theorem ll (B : Bt mg) (D : zf K mg "row_with" qv ["others", "k", "word"]) : FnAt P w K mg base "row_with" 1 ["others", "k", "word"] d0 := by
  refine FnAt.of D za1 (fun vs H Q E h => ?_) (fun f cdv A outer s H vs Q E hr h => ?_)
  . obtain ⟨c, r, k, z, rfl, _⟩ := h
    rfl
  . obtain ⟨c, r, k, z, rfl, hc, hk, h8, q⟩ := h
    refine ⟨_, (@zh _ _ _ (@zm _ _ _ _ (@zl _ _ _ _ _ _ _ _ uq (@zl _ _ _ _ _ _ _ _ uq (@wv _ _ _ _ _ _ _ _ _ _ p9 (pv 0) (@vv _) (@vc _ _ _ (pv 1))) (@y9 _ _ _ _ _ (za (pv 2) (@zb _)))) (@wv _ _ _ _ _ _ _ _ _ _ p9 (pv 0) (@vc _ _ _ (pv 1)) (@vv _))))), ?_⟩;rw [show zt ["others", "k", "word"] [V.ref c, V.int k, V.str z] = [some (V.ref c), some (V.int k), some (V.str z)] from rfl];simp only [zc, zd, ↓reduceIte];refine ⟨_, hc, fun H1 p1 S1 h1 => ⟨by decide, fun p2 hp2 => ?_⟩⟩;rw [j0 (by rw [Za]; exact hk)] at h1;have S2 : Same H1 (upd H1 p2 (.tup [V.str z])) := Same.upd (Same.refl _) hp2;refine ⟨_, S2 _ _ h1, _, ze, ?_, fun H3 p3 S3 h3 => ?_⟩
    . rw [Zj, Za]
      exact Zd (show _ <= 9 by simp; omega) (by decide)
    refine ⟨_, (S1.trans (S2.trans S3)) _ _ hc, fun H4 p4 S4 h4 => ?_⟩;rw [ma (by rw [Za]; exact hk)] at h4;refine ⟨_, S4 _ _ h3, _, h4, ?_, fun H5 p5 S5 h5 => ?_⟩
    . simp only [Zo, Zj, Ye, Za, ZL, Ym]
      exact Zd (show _ <= 17 by omega) (by decide)
    . refine q H5 p5 (S1.trans (S2.trans (S3.trans (S4.trans S5)))) ?_
      rw [h5, insP];simp
end
def putP (f : List Str -> Str) (outs o : List Str) (k : Nat) (us : List Str) : List Nat := us.map fun u => outs.idxOf (f (insP o k u))
def colP (d : HD) (ps : List Nat) : List (List Int) := d.worths.map fun r => ps.map fun p => r.getD p 0
def cw (f : List Str -> Str) (rs : List (List Str)) (outs o : List Str) (k : Nat) (d : HD) : Prop := k <= o.length /\ o.length <= 8 /\ ∀ u ∈ d.words, insP o k u ∈ rs /\ f (insP o k u) ∈ outs
def zbq : Sp := fun vs H Q _ => ∃ (p o h t c : Addr) (hs : List Addr) (outs : List Str) (ds : List HD) (f : List Str -> Str) (rs : List (List Str)) (ot : List Str) (k : Nat) (d : HD), vs = [.ref p, .ref t, .int k, .ref c] /\ HHouse H p o h hs outs ds /\ GoodHouse outs ds /\ H t = some (.dT (xg f rs)) /\ ds[k]? = some d /\ H c = some (.tup (ot.map V.str)) /\ cw f rs outs ot k d /\
  ∀ H' l, Same H H' -> H' l = some (.lst ((nI (putP f outs ot k d.words)).map V.int)) -> Q (.ref l) H'
def g0 : Sp := fun vs H Q _ => ∃ (t l : Addr) (ns : List Int) (ps : List Nat), vs = [.ref t, .ref l] /\ H t = some (.tup (ns.map V.int)) /\ H l = some (.lst ((nI ps).map V.int)) /\ (∀ p ∈ ps, p < ns.length) /\ ps.length <= 8 /\ ∀ H' l', Same H H' -> H' l' = some (.lst ((ps.map fun p => ns.getD p 0).map V.int)) -> Q (.ref l') H'
def ir : Sp := fun vs H Q _ => ∃ (p o h t c : Addr) (hs : List Addr) (outs : List Str) (ds : List HD) (f : List Str -> Str) (rs : List (List Str)) (ot : List Str) (k : Nat) (d : HD), vs = [.ref p, .ref t, .int k, .ref c] /\ HHouse H p o h hs outs ds /\ GoodHouse outs ds /\ H t = some (.dT (xg f rs)) /\ ds[k]? = some d /\ H c = some (.tup (ot.map V.str)) /\ cw f rs outs ot k d /\
  ∀ H' l ls, Same H H' -> H' l = some (.lst (ls.map V.ref)) -> IntsAt H' ls (colP d (putP f outs ot k d.words)) -> Q (.ref l) H'
def PvTu (H : Hp) (o : List Str) (k : Nat) (us : List Str) (i : Nat) (ys : List V) (H' : Hp) : Prop := Same H H' /\ ∃ as : List Addr, ys = as.map V.ref /\ TupsAt H' as ((us.take i).map (insP o k))
def PvPp (H : Hp) (f : List Str -> Str) (outs o : List Str) (k : Nat) (us : List Str) (i : Nat) (ys : List V) (H' : Hp) : Prop := H' = H /\ ys = (nI (putP f outs o k (us.take i))).map V.int
def PvWa (H : Hp) (ns : List Int) (ps : List Nat) (i : Nat) (ys : List V) (H' : Hp) : Prop := H' = H /\ ys = ((ps.take i).map fun p => ns.getD p 0).map V.int
def PvCl (H : Hp) (d : HD) (ps : List Nat) (i : Nat) (ys : List V) (H' : Hp) : Prop := Same H H' /\ ∃ ls : List Addr, ys = ls.map V.ref /\ IntsAt H' ls ((colP d ps).take i)
section
variable {P : Program} {w : World} {K : Fg} {mg : Str -> Option Value} {base : Heap} {a : Ad}
theorem sh (B : Bt mg) (ll : FnAt P w K mg base "row_with" 1 ["others", "k", "word"] d0) (yt : FnAt P w K mg base "words_of_hand" 1 ["hand"] (wp K 1)) (f_hands_of : FnAt P w K mg base "hands_of" 1 ["house"] (wp K 1)) (f_outcomes_of : FnAt P w K mg base "outcomes_of" 1 ["house"] (wp K 0)) (D : zf K mg "dealt_places" vz ["house", "table", "k", "others"]) : FnAt P w K mg base "dealt_places" 2 ["house", "table", "k", "others"] zbq := by
  refine FnAt.of D sc_dealt_places (fun vs H Q E h => ?_) (fun f cdv A outer s H vs Q E hr h => ?_)
  . obtain ⟨p, o, h, t, c, hs, outs, ds, f, rs, ot, k, d, rfl, _⟩ := h
    rfl
  . obtain ⟨p, o, h, t, c, hs, outs, ds, f, rs, ot, k, d, rfl, hH, G, ht, hd, hc, ⟨hk, h8, hD⟩, q⟩ := h
    refine ⟨_, (@zi _ _ _ _ _ (w6 (i := 4) ["word"] ["house", "table", "k", "others", "rows"] sc_dealt_places.nd rfl rfl rfl (@gw _ _ _ _ (zj yt (hr.mono (by decide)) rfl (za (@zw _ _ _ _ _ _ _ yn (zj f_hands_of (hr.mono (by decide)) rfl (za (pv 0) (@zb _))) (pv 2) (fun _ _ => rfl)) (@zb _)))) (fun _ => (zo (i := 0) (show (["word", "house", "table", "k", "others", "rows"] : List Str).Nodup by decide +kernel) rfl (Or.inl rfl))) (fun _ => (@yc _)) (fun _ => (zj ll (hr.mono (by decide)) rfl (za (pv 4) (za (pv 3) (za (pv 0) (@zb _)))))) rfl (by decide +kernel) rfl rfl rfl) (@zh _ _ _ (@zm _ _ _ _ (yk ["row"] ["house", "table", "k", "others", "rows"] rfl (@yh _ _ _ _ (pv 4)) (fun _ => (zo (i := 0) (show (["row", "house", "table", "k", "others", "rows"] : List Str).Nodup by decide +kernel) rfl (Or.inl rfl))) (fun _ => (@yc _)) (fun _ => (zfg PySem.F.plainAttrs_tuple PySem.F.slot_tuple_index PySem.F.type_tuple_index dg (zj f_outcomes_of (hr.mono (by decide)) rfl (za (pv 1) (@zb _))) (za (@e5 _ _ _ _ _ _ (hu10 hr) (pv 2) (pv 0) (fun _ _ => rfl)) (@zb _)))) rfl (by decide +kernel) rfl rfl)))), ?_⟩;rw [show zt ["house", "table", "k", "others", "rows"] [V.ref p, V.ref t, V.int k, V.ref c] = [some (V.ref p), some (V.ref t), some (V.int k), some (V.ref c), none] from rfl];simp only [zc, zd, ↓reduceIte];have hkl : k < ds.length := (Zc.mp hd).1;obtain ⟨x, hx⟩ : ∃ x, hs[k]? = some x := ⟨hs[k]'(by rw [hH.hand.1]; exact hkl), by simp⟩;obtain ⟨wd, g, gs, hA⟩ := hH.hand.2 k x d hx hd;refine ⟨p, _, _, rfl, .of hH.tup, rfl, h, rfl, _, .of hH.hands, _, z0 (v := V.ref x) (by rw [Ze, hx]; rfl), ?_⟩;refine ⟨x, _, _, rfl, .of hA.tup, rfl, wd, rfl, ⟨_, .of hA.words⟩, fun dd => ?_⟩;have w8 := (G.words1 d (Zi hd)).2;refine im (xs := d.words.map V.str) (PvTu H ot k d.words) ⟨Same.refl _, [], rfl, rfl, fun i a r e => by simp at e⟩ ?_ ?_ ?_
    . rintro i ys H2 hi ⟨S2, as, rfl, T2⟩
      refine ⟨?_, .of (S2 _ _ hA.words)⟩;rw [Za, T2.len, Za, Zj];exact Zd (ZB _ _) (Zd w8 (by decide))
    . rintro i y ys H2 hy ⟨S2, as, rfl, T2⟩
      obtain ⟨u, hu, rfl⟩ := yy hy;simp only [zc, zd, ↓reduceIte];refine ⟨c, ot, k, u, rfl, S2 _ _ hc, hk, h8, fun H3 p3 S3 h3 => ?_⟩;refine ⟨S2.trans S3, as ++ [p3], by simp, ?_⟩;rw [Zq, hu, Zn];exact (T2.mono S3).append (TupsAt.one h3)
    . rintro ys H2 ⟨S2, as, rfl, T2⟩ l hl
      rw [Za, Zt] at T2;have S3 : Same H2 (upd H2 l (.lst (as.map V.ref))) := Same.upd (Same.refl _) hl;have h3 : upd H2 l (.lst (as.map V.ref)) l = some (.lst (as.map V.ref)) := ze;generalize upd H2 l (.lst (as.map V.ref)) = H3 at *;have T3 := T2.mono S3;have S13 := S2.trans S3;refine ⟨⟨_, .of h3⟩, fun dd => ?_⟩;refine yo (xs := as.map V.ref) (PvPp H3 f outs ot k d.words) ⟨rfl, rfl⟩ ?_ ?_ ?_
      . rintro i ys H4 hi ⟨rfl, rfl⟩
        refine ⟨?_, .of h3⟩;rw [Za, nI, Za, putP, Za, Zj];exact Zd (ZB _ _) (Zd w8 (by decide))
      . rintro i y ys H4 hy ⟨rfl, rfl⟩
        obtain ⟨b, hb, rfl⟩ := sg hy;have hi : i < d.words.length := by have := (Zc.mp hb).1; have := T3.len; rw [Za] at this; omega
        have hu : d.words[i]? = some d.words[i] := Zb hi;have hrow := T3.at' i b _ hb (by rw [Ze, hu]; rfl);obtain ⟨z1, z2⟩ := hD _ (Zl hi);generalize d.words[i] = u at *;have hval : valV (xg f rs) (yr (insP ot k u)) = some (V.str (f (insP ot k u))) := zdn z1
        have gt : DGet H4 t (.ref b) (some (V.str (f (insP ot k u)))) := by
          have := DGet.t (k := yr (insP ot k u)) (S13 _ _ ht) (b := b) (by rw [vh]; exact hrow)
          rwa [hval] at this
        simp only [zc, zd, ↓reduceIte];have hH4 := hH.mono S13;refine ⟨p, _, _, rfl, .of hH4.tup, rfl, ⟨o, rfl, _, .of hH4.outs⟩, _, gt, o, rfl, _, .of hH4.outs, _, ni z2, rfl, ?_⟩;rw [Zq, hu];simp [putP, nI]
      . rintro ys H4 ⟨rfl, rfl⟩ l2 hl2
        rw [Za, T3.len, Za, Zt];exact q _ l2 (S13.trans (Same.upd (Same.refl _) hl2)) ze
theorem mr (D : zf K mg "worths_at" rh ["worths", "places"]) : FnAt P w K mg base "worths_at" 1 ["worths", "places"] g0 := by
  refine FnAt.of D zad (fun vs H Q E h => ?_) (fun f cdv A outer s H vs Q E hr h => ?_)
  . obtain ⟨t, l, ns, ps, rfl, _⟩ := h
    rfl
  . obtain ⟨t, l, ns, ps, rfl, ht, hl, hp, h8, q⟩ := h
    refine ⟨_, (@zh _ _ _ (@zm _ _ _ _ (yk ["place"] ["worths", "places"] rfl (@yh _ _ _ _ (pv 1)) (fun _ => (zo (i := 0) (show (["place", "worths", "places"] : List Str).Nodup by decide +kernel) rfl (Or.inl rfl))) (fun _ => (@yc _)) (fun _ => (@zw _ _ _ _ _ _ _ yn (pv 1) (pv 0) (fun _ _ => rfl))) rfl (by decide +kernel) rfl rfl))), ?_⟩;rw [show zt ["worths", "places"] [V.ref t, V.ref l] = [some (V.ref t), some (V.ref l)] from rfl];simp only [zc, zd, ↓reduceIte];refine ⟨⟨_, .of hl⟩, fun dd => ?_⟩;refine yo (xs := (nI ps).map V.int) (PvWa H ns ps) ⟨rfl, rfl⟩ ?_ ?_ ?_
    . rintro i ys H4 hi ⟨rfl, rfl⟩
      refine ⟨?_, .of hl⟩;rw [Za, Za, Zj];exact Zd (ZB _ _) (Zd h8 (by decide))
    . rintro i y ys H4 hy ⟨rfl, rfl⟩
      obtain ⟨z, hz, rfl⟩ := ip hy;rw [nI, Ze] at hz
      obtain ⟨pl, hpl⟩ : ∃ y, ps[i]? = some y := by
        cases e : ps[i]? with
        | none => rw [e] at hz; cases hz
        | some y => exact ⟨y, rfl⟩
      rw [hpl] at hz;cases hz;have lt := hp pl (Zi hpl);have ex : ns[pl]? = some (ns.getD pl 0) := by rw [Zk, Zb lt]; rfl
      simp only [zc, zd, ↓reduceIte];refine ⟨_, .of ht, _, wa ex, rfl, ?_⟩;rw [Zq, hpl, Zn, Zn];rfl
    . rintro ys H4 ⟨rfl, rfl⟩ l2 hl2
      rw [Za, nI, Za, Zt];exact q _ l2 (Same.upd (Same.refl _) hl2) ze
theorem qf (B : Bt mg) (sh : FnAt P w K mg base "dealt_places" 2 ["house", "table", "k", "others"] zbq) (mr : FnAt P w K mg base "worths_at" 1 ["worths", "places"] g0) (xy : FnAt P w K mg base "worths_of_hand" 1 ["hand"] (wp K 2)) (f_hands_of : FnAt P w K mg base "hands_of" 1 ["house"] (wp K 1)) (D : zf K mg "grid_of" nq ["house", "table", "k", "others"]) : FnAt P w K mg base "grid_of" 3 ["house", "table", "k", "others"] ir := by
  refine FnAt.of D sc_grid_of (fun vs H Q E h => ?_) (fun f cdv A outer s H vs Q E hr h => ?_)
  . obtain ⟨p, o, h, t, c, hs, outs, ds, f, rs, ot, k, d, rfl, _⟩ := h
    rfl
  . obtain ⟨p, o, h, t, c, hs, outs, ds, f, rs, ot, k, d, rfl, hH, G, ht, hd, hc, hD, q⟩ := h
    refine ⟨_, (@zi _ _ _ _ _ (zy (i := 4) sc_grid_of.nd rfl (Or.inr rfl) (zj sh (hr.mono (by decide)) rfl (za (pv 0) (za (pv 1) (za (pv 2) (za (pv 3) (@zb _))))))) (@zh _ _ _ (@zm _ _ _ _ (yk ["worths"] ["house", "table", "k", "others", "places"] rfl (@gw _ _ _ _ (zj xy (hr.mono (by decide)) rfl (za (@zw _ _ _ _ _ _ _ yn (zj f_hands_of (hr.mono (by decide)) rfl (za (pv 0) (@zb _))) (pv 2) (fun _ _ => rfl)) (@zb _)))) (fun _ => (zo (i := 0) (show (["worths", "house", "table", "k", "others", "places"] : List Str).Nodup by decide +kernel) rfl (Or.inl rfl))) (fun _ => (@yc _)) (fun _ => (zj mr (hr.mono (by decide)) rfl (za (pv 0) (za (pv 5) (@zb _))))) rfl (by decide +kernel) rfl rfl)))), ?_⟩;rw [show zt ["house", "table", "k", "others", "places"] [V.ref p, V.ref t, V.int k, V.ref c] = [some (V.ref p), some (V.ref t), some (V.int k), some (V.ref c), none] from rfl];simp only [zc, zd, ↓reduceIte];refine ⟨p, o, h, t, c, hs, outs, ds, f, rs, ot, k, d, rfl, hH, G, ht, hd, hc, hD, fun H1 l S1 hl => ?_⟩;have hkl : k < ds.length := (Zc.mp hd).1;obtain ⟨x, hx⟩ : ∃ x, hs[k]? = some x := ⟨hs[k]'(by rw [hH.hand.1]; exact hkl), by simp⟩;have hH1 := hH.mono S1;obtain ⟨wd, g, gs, hA⟩ := hH1.hand.2 k x d hx hd;have hmd := Zi hd;have w8 := (G.words1 d hmd).2;have ro := G.rows d hmd;simp only [zc, zd, ↓reduceIte];refine ⟨p, _, _, rfl, .of hH1.tup, rfl, h, rfl, _, .of hH1.hands, _, z0 (v := V.ref x) (by rw [Ze, hx]; rfl), ?_⟩;refine ⟨x, _, _, rfl, .of hA.tup, rfl, g, rfl, ⟨_, .of hA.grid⟩, fun dd => ?_⟩
    have hps : ∀ p ∈ putP f outs ot k d.words, p < outs.length := fun p hp => by
      obtain ⟨u, hu, rfl⟩ := Zp.mp hp;exact Zz.mpr (hD.2.2 u hu).2
    have lps : (putP f outs ot k d.words).length = d.words.length := by rw [putP, Za]
    generalize putP f outs ot k d.words = ps at *;refine im (xs := gs.map V.ref) (PvCl H1 d ps) ⟨Same.refl _, [], rfl, rfl, fun i a r e => by simp at e⟩ ?_ ?_ ?_
    . rintro i ys H2 hi ⟨S2, as, rfl, T2⟩
      refine ⟨?_, .of (S2 _ _ hA.grid)⟩;rw [Za, T2.len, Zj, colP, Za];exact Zd (ZB _ _) (Zd (show _ <= 8 by omega) (by decide))
    . rintro i y ys H2 hy ⟨S2, as, rfl, T2⟩
      obtain ⟨b, hb, rfl⟩ := sg hy;have hi : i < d.worths.length := by have := (Zc.mp hb).1; have := hA.len; omega
      have er : d.worths[i]? = some d.worths[i] := Zb hi;have hrow := S2 _ _ (hA.row i b _ hb er);have hcl := G.cols d hmd _ (Zl hi);simp only [zc, zd, ↓reduceIte];refine ⟨b, l, d.worths[i], ps, rfl, hrow, S2 _ _ hl, fun p hp => by rw [hcl]; exact hps p hp, by omega, fun H3 l3 S3 h3 => ?_⟩;refine ⟨S2.trans S3, as ++ [l3], by simp, ?_⟩;rw [Zq, colP, Ze, er];exact (T2.mono S3).snoc h3
    . rintro ys H2 ⟨S2, as, rfl, T2⟩ l2 hl2
      rw [Za, hA.len, ZG (by rw [colP, Za]; exact Zm _)] at T2;have S3 : Same H2 (upd H2 l2 (.lst (as.map V.ref))) := Same.upd (Same.refl _) hl2;exact q _ l2 as (S1.trans (S2.trans S3)) ze (T2.mono S3)
end
def dueK (ds : List HD) (m : Nat) : List (Nat × List Str) := (List.range m).flatMap fun k => (zz ((ds.eraseIdx k).map HD.words)).map fun o => (k, o)
theorem da (ds : List HD) (m : Nat) : dueK ds (m + 1) = dueK ds m ++ (zz ((ds.eraseIdx m).map HD.words)).map fun o => (m, o) := by
  rw [dueK, Yx, List.flatMap_append];simp [dueK]
def ym (f : List Str -> Str) (outs : List Str) (ds : List HD) (x : Nat × List Str) : List (List Int) := match ds[x.1]? with
  | some d => colP d (putP f outs x.2 x.1 d.words)
  | none => []
def yu (ds : List HD) (x : Nat × List Str) : Nat := match ds[x.1]? with
  | some d => d.words.length
  | none => 0
theorem ou {f : List Str -> Str} {outs : List Str} {ds : List HD} {k : Nat} {o : List Str} {d : HD} (h : ds[k]? = some d) : ym f outs ds (k, o) = colP d (putP f outs o k d.words) := by rw [ym]; simp only [h]
theorem qd {ds : List HD} {k : Nat} {o : List Str} {d : HD} (h : ds[k]? = some d) : yu ds (k, o) = d.words.length := by rw [yu]; simp only [h]
def sk (f : List Str -> Str) (rs : List (List Str)) (outs : List Str) (ds : List HD) : Prop := ∀ (k : Nat) (d : HD) (o : List Str), ds[k]? = some d -> o ∈ zz ((ds.eraseIdx k).map HD.words) -> cw f rs outs o k d
structure GridsAt (H : Hp) (as : List Addr) (xs : List (Nat × List Str)) (F : Nat × List Str -> List (List Int)) : Prop where
  len : as.length = xs.length
  at' : ∀ (i : Nat) (a : Addr) (x : Nat × List Str), as[i]? = some a -> xs[i]? = some x -> ∃ c g ls, H a = some (.tup [.int x.1, .ref c, .ref g]) /\ H c = some (.tup (x.2.map V.str)) /\ H g = some (.lst (ls.map V.ref)) /\ IntsAt H ls (F x)
theorem GridsAt.mono {H H' : Hp} {as : List Addr} {xs : List (Nat × List Str)} {F : Nat × List Str -> List (List Int)} (S : Same H H') (h : GridsAt H as xs F) : GridsAt H' as xs F := ⟨h.len, fun i a x e1 e2 => by
  obtain ⟨c, g, ls, h1, h2, h3, h4⟩ := h.at' i a x e1 e2
  exact ⟨c, g, ls, S _ _ h1, S _ _ h2, S _ _ h3, h4.mono S⟩⟩
theorem ze0 {α β : Type} {as bs : List α} {xs ys : List β} {i : Nat} {a : α} {x : β} (hl : as.length = xs.length) (e1 : (as ++ bs)[i]? = some a) (e2 : (xs ++ ys)[i]? = some x) : (as[i]? = some a /\ xs[i]? = some x) \/ (bs[i - as.length]? = some a /\ ys[i - as.length]? = some x) := by
  by_cases hi : i < as.length
  . rw [Zg hi] at e1
    rw [Zg (by omega)] at e2;exact .inl ⟨e1, e2⟩
  . rw [Zf (by omega)] at e1
    rw [Zf (by omega)] at e2;rw [<- hl] at e2;exact .inr ⟨e1, e2⟩
theorem GridsAt.append {H : Hp} {as bs : List Addr} {xs ys : List (Nat × List Str)} {F : Nat × List Str -> List (List Int)} (h : GridsAt H as xs F) (h' : GridsAt H bs ys F) : GridsAt H (as ++ bs) (xs ++ ys) F := ⟨by simp [h.len, h'.len], fun i a x e1 e2 => by
  rcases ze0 h.len e1 e2 with ⟨z1, z2⟩ | ⟨z1, z2⟩
  . exact h.at' i a x z1 z2
  . exact h'.at' _ a x z1 z2⟩
theorem GridsAt.one {H : Hp} {a c g : Addr} {ls : List Addr} {x : Nat × List Str} {F : Nat × List Str -> List (List Int)} (h1 : H a = some (.tup [.int x.1, .ref c, .ref g])) (h2 : H c = some (.tup (x.2.map V.str))) (h3 : H g = some (.lst (ls.map V.ref))) (h4 : IntsAt H ls (F x)) : GridsAt H [a] [x] F := ⟨rfl, fun i b y e1 e2 => by
  have : i = 0 := by have := (Zc.mp e1).1; simp at this; omega
  subst this;cases e1;cases e2
  exact ⟨c, g, ls, h1, h2, h3, h4⟩⟩
def ji : Sp := fun vs H Q _ => ∃ (p o h t : Addr) (hs : List Addr) (outs : List Str) (ds : List HD) (f : List Str -> Str) (rs : List (List Str)), vs = [.ref p, .ref t] /\ HHouse H p o h hs outs ds /\ GoodHouse outs ds /\ H t = some (.dT (xg f rs)) /\ sk f rs outs ds /\
  ∀ H' l as, Same H H' -> H l = none -> H' l = some (.lst (as.map V.ref)) -> GridsAt H' as (dueK ds ds.length) (ym f outs ds) -> Q (.ref l) H'
def vi (rows : List (List Int)) (n : Nat) : Prop := ∀ j, NoNeg (z7 rows) n j
structure PaperAt (H : Hp) (a : Addr) (k : Nat) (c : Addr) (gs : List (Int × List Nat × Addr)) : Prop where
  ex : ∃ pl rl, H a = some (.tup [.int k, .ref c, .ref pl, .ref rl]) /\ H pl = some (.lst ((gs.map fun e => e.1).map V.int)) /\ H rl = some (.lst (gs.map fun e => V.ref e.2.2))
  road : ∀ e ∈ gs, H e.2.2 = some (.lst ((nI e.2.1).map V.int))
theorem PaperAt.mono {H H' : Hp} {a : Addr} {k : Nat} {c : Addr} {gs : List (Int × List Nat × Addr)} (S : Same H H') (h : PaperAt H a k c gs) : PaperAt H' a k c gs := by
  obtain ⟨pl, rl, h1, h2, h3⟩ := h.ex;exact ⟨⟨pl, rl, S _ _ h1, S _ _ h2, S _ _ h3⟩, fun e he => S _ _ (h.road e he)⟩
def zcl (K : Fg) : Sp := fun vs H Q _ => ∃ (k : Nat) (c g : Addr) (rows : List (List Int)) (n : Nat), vs = [.int k, .ref c, .ref g] /\ Gd K H g rows n /\ 0 < n /\ vi rows n /\ ∀ H' a gs, Same H H' -> PaperAt H' a k c gs -> Great rows n gs -> Q (.ref a) H'
structure PapersAt (H : Hp) (as : List Addr) (xs : List (Nat × List Str)) (F : Nat × List Str -> List (List Int)) (W : Nat × List Str -> Nat) : Prop where
  len : as.length = xs.length
  at' : ∀ (i : Nat) (a : Addr) (x : Nat × List Str), as[i]? = some a -> xs[i]? = some x -> ∃ c gs, PaperAt H a x.1 c gs /\ H c = some (.tup (x.2.map V.str)) /\ Great (F x) (W x) gs
theorem PapersAt.mono {H H' : Hp} {as : List Addr} {xs : List (Nat × List Str)} {F : Nat × List Str -> List (List Int)} {W : Nat × List Str -> Nat} (S : Same H H') (h : PapersAt H as xs F W) : PapersAt H' as xs F W := ⟨h.len, fun i a x e1 e2 => by
  obtain ⟨c, gs, h1, h2, h3⟩ := h.at' i a x e1 e2
  exact ⟨c, gs, h1.mono S, S _ _ h2, h3⟩⟩
theorem PapersAt.snoc {H : Hp} {as : List Addr} {xs : List (Nat × List Str)} {F : Nat × List Str -> List (List Int)} {W : Nat × List Str -> Nat} {a c : Addr} {x : Nat × List Str} {gs : List (Int × List Nat × Addr)} (h : PapersAt H as xs F W) (h1 : PaperAt H a x.1 c gs) (h2 : H c = some (.tup (x.2.map V.str))) (h3 : Great (F x) (W x) gs) : PapersAt H (as ++ [a]) (xs ++ [x]) F W := ⟨by simp [h.len], fun i b y e1 e2 => by
  rcases ze0 h.len e1 e2 with ⟨z1, z2⟩ | ⟨z1, z2⟩
  . exact h.at' i b y z1 z2
  . have : i - as.length = 0 := by have := (Zc.mp z1).1; simp at this; omega
    rw [this] at z1 z2;cases z1;cases z2
    exact ⟨c, gs, h1, h2, h3⟩⟩
def du (K : Fg) : Sp := fun vs H Q _ => ∃ (p o h t : Addr) (hs : List Addr) (outs : List Str) (ds : List HD) (f : List Str -> Str) (rs : List (List Str)), vs = [.ref p, .ref t] /\ HHouse H p o h hs outs ds /\ GoodHouse outs ds /\ H t = some (.dT (xg f rs)) /\ sk f rs outs ds /\
  (∀ H' tp l as, Same H H' -> H' tp = some (.tup [.str "pays", .ref l]) -> H' l = some (.lst (as.map V.ref)) -> PapersAt H' as (dueK ds ds.length) (ym f outs ds) (yu ds) -> Q (.ref tp) H') /\
  ∀ (H' : Hp) (tp c l : Addr) (i : Nat) (x : Nat × List Str) (cy : List Nat), Same H H' -> (dueK ds ds.length)[i]? = some x -> (∀ (j : Nat) (y : Nat × List Str), j < i -> (dueK ds ds.length)[j]? = some y -> vi (ym f outs ds y) (yu ds y)) -> H' tp = some (.tup [.str "ring", .int x.1, .ref c, .ref l]) -> H' c = some (.tup (x.2.map V.str)) -> H' l = some (.lst ((nI cy).map V.int)) -> RingA (z7 (ym f outs ds x)) (yu ds x) cy -> Q (.ref tp) H'
theorem ib {outs : List Str} {ds : List HD} (G : GoodHouse outs ds) : ∀ m, m <= ds.length -> (dueK ds m).length <= m * 4096
  | 0, _ => by simp [dueK]
  | m + 1, h => by
    have ih := ib G m (by omega);have h4 := G.hands.2
    have few := sd (wss := (ds.eraseIdx m).map HD.words) (by rw [Za, ZO (by omega)]; omega) (fun ws hws => by
      obtain ⟨d, hd, rfl⟩ := Zp.mp hws
      exact (G.words1 d (YB hd)).2) _ (Zm _)
    rw [Zt] at few;rw [da, Zo, Za];omega
theorem ig {ds : List HD} {m : Nat} {x : Nat × List Str} (h : x ∈ dueK ds m) : x.1 < m /\ x.2 ∈ zz ((ds.eraseIdx x.1).map HD.words) := by
  rw [dueK, List.mem_flatMap] at h;obtain ⟨k, hk, h⟩ := h;obtain ⟨o, ho, rfl⟩ := Zp.mp h;exact ⟨ZW.mp hk, ho⟩
theorem GridsAt.past {H : Hp} {l : Addr} {o : HO} {as0 cs : List Addr} {xs : List (Nat × List Str)} {F : Nat × List Str -> List (List Int)} (hl : H l = some (.lst (as0.map V.ref))) (h0 : ∀ a ∈ as0, ∃ us, H a = some (.tup us)) (ne : ∀ x ∈ xs, F x ≠ [] /\ ∀ r ∈ F x, r ≠ []) (h : GridsAt H cs xs F) : GridsAt (upd H l o) cs xs F := ⟨h.len, fun i a x e1 e2 => by
  obtain ⟨c, g, ls, h1, h2, h3, h4⟩ := h.at' i a x e1 e2;obtain ⟨n1, n2⟩ := ne x (Zi e2);have k1 : a ≠ l := fun e => by rw [e, hl] at h1; cases h1
  have k2 : c ≠ l := fun e => by rw [e, hl] at h2; cases h2
  have k4 : ∀ r ∈ ls, r ≠ l := fun r hr e => by
    obtain ⟨j, hj, rfl⟩ := Zy hr;have hj2 : j < (F x).length := by rw [<- h4.len]; exact hj
    have := h4.at' j _ _ (Zb hj) (Zb hj2);rw [e, hl] at this;have nz := n2 _ (Zl hj2);generalize (F x)[j] = p at *
    cases p with
    | nil => exact nz rfl
    | cons z p => cases as0 <;> simp at this
  have k3 : g ≠ l := fun e => by
    rw [e, hl] at h3;have z : as0.map V.ref = ls.map V.ref := by simpa using h3
    have hl0 : 0 < ls.length := by
      rw [h4.len]
      cases e : F x with
      | nil => exact absurd e n1
      | cons _ _ => simp
    have hl1 : 0 < as0.length := by have := congrArg List.length z; simp at this; omega
    have hj2 : 0 < (F x).length := by rw [<- h4.len]; exact hl0
    have r1 := h4.at' 0 _ _ (Zb hl0) (Zb hj2)
    have ee : as0[0] = ls[0] := by
      have := congrArg (fun q => q[0]?) z
      simpa [Ze, Zb hl0, Zb hl1] using this
    obtain ⟨us, hu⟩ := h0 _ (Zl hl1);rw [ee, r1] at hu;cases hu
  refine ⟨c, g, ls, by rw [zr k1]; exact h1, by rw [zr k2]; exact h2, by rw [zr k3]; exact h3, h4.len, fun j r p e3 e4 => ?_⟩;rw [zr (k4 r (Zi e3))]
  exact h4.at' j r p e3 e4⟩
theorem GridsAt.tup {H : Hp} {as : List Addr} {xs : List (Nat × List Str)} {F : Nat × List Str -> List (List Int)} (h : GridsAt H as xs F) : ∀ a ∈ as, ∃ us, H a = some (.tup us) := fun a ha => by
  obtain ⟨j, hj, rfl⟩ := Zy ha;have hj2 : j < xs.length := by rw [<- h.len]; exact hj
  obtain ⟨c, g, ls, h1, _⟩ := h.at' j _ _ (Zb hj) (Zb hj2);exact ⟨_, h1⟩
theorem zak {f : List Str -> Str} {outs : List Str} {ds : List HD} (G : GoodHouse outs ds) {x : Nat × List Str} (h : x.1 < ds.length) : ym f outs ds x ≠ [] /\ ∀ r ∈ ym f outs ds x, r ≠ [] := by
  obtain ⟨k, o⟩ := x;have hd : ds[k]? = some ds[k] := Zb h;have hm := Zl h;have w1 := (G.words1 _ hm).1;have ro := G.rows _ hm;rw [ou hd];generalize ds[k] = d at *;refine ⟨fun e => ?_, fun r hr e => ?_⟩
  . have := congrArg List.length e
    rw [colP, Za] at this;simp at this;rw [this] at ro;simp at ro;omega
  . obtain ⟨r', _, rfl⟩ := Zp.mp hr
    have := congrArg List.length e;rw [Za, putP, Za] at this;simp at this;rw [this] at w1;simp at w1
def PvGs (p t : Addr) (ds : List HD) (F : Nat × List Str -> List (List Int)) (H : Hp) (i : Nat) (σ : L2.St) (H' : Hp) : Prop := ∃ (l : Addr) (as : List Addr) (v : Option V), Same H H' /\ H l = none /\ H' l = some (.lst (as.map V.ref)) /\ GridsAt H' as (dueK ds i) F /\ σ = [some (.ref p), some (.ref t), some (.ref l), v]
def PvG3 (k : Nat) (os : List (List Str)) (F : Nat × List Str -> List (List Int)) (H : Hp) (i : Nat) (ys : List V) (H' : Hp) : Prop := Same H H' /\ ∃ as : List Addr, ys = as.map V.ref /\ GridsAt H' as ((os.take i).map fun o => (k, o)) F
section
variable {P : Program} {w : World} {K : Fg} {mg : Str -> Option Value} {base : Heap} {a : Ad}
theorem uz (B : Bt mg) (f_hands_of : FnAt P w K mg base "hands_of" 1 ["house"] (wp K 1)) (qf : FnAt P w K mg base "grid_of" 3 ["house", "table", "k", "others"] ir) (my : FnAt P w K mg base "others_of" 3 ["house", "k"] (i8 K)) (D : zf K mg "grids_of" qy ["house", "table"]) : FnAt P w K mg base "grids_of" 4 ["house", "table"] ji := by
  refine FnAt.of D sc_grids_of (fun vs H Q E h => ?_) (fun f cdv A outer s H vs Q E hr h => ?_)
  . obtain ⟨p, o, h, t, hs, outs, ds, f, rs, rfl, _⟩ := h
    rfl
  . obtain ⟨p, o, h, t, hs, outs, ds, f, rs, rfl, hH, G, ht, hD, q⟩ := h
    refine ⟨_, (@zi _ _ _ _ _ (zy (i := 2) sc_grids_of.nd rfl (Or.inl rfl) (@y8 _ _ _ _ (@zb _))) (@zi _ _ _ _ _ (yw PassesOwn.never rfl (yi rfl B.range (za (zn zq rfl B.len ye (za (zj f_hands_of (hr.mono (by decide)) rfl (za (pv 0) (@zb _))) (@zb _))) (@zb _))) (zo (i := 3) sc_grids_of.nd rfl (Or.inr rfl)) (@zh _ _ _ (wn (t8 PySem.F.plainAttrs_list PySem.F.slot_list_extend PySem.F.type_list_extend dq (pv 2) (za (yk ["others"] ["house", "table", "grids", "k"] rfl (@yh _ _ _ _ (zj my (hr.mono (by decide)) rfl (za (pv 0) (za (pv 3) (@zb _))))) (fun _ => (zo (i := 0) (show (["others", "house", "table", "grids", "k"] : List Str).Nodup by decide +kernel) rfl (Or.inl rfl))) (fun _ => (@yc _)) (fun _ => (@y9 _ _ _ _ _ (za (pv 4) (za (pv 0) (za (zj qf (hr.mono (by decide)) rfl (za (pv 1) (za (pv 2) (za (pv 4) (za (pv 0) (@zb _)))))) (@zb _)))))) rfl (by decide +kernel) rfl rfl) (@zb _)))))) (@zh _ _ _ (@zm _ _ _ _ (pv 2))))), ?_⟩;rw [show zt ["house", "table", "grids", "k"] [V.ref p, V.ref t] = [some (V.ref p), some (V.ref t), none, none] from rfl];simp only [zc, zd, ↓reduceIte];refine ⟨by decide, fun l0 hl0 => ?_⟩;have S1 : Same H (upd H l0 (.lst [])) := Same.upd (Same.refl _) hl0;have h1 : upd H l0 (.lst []) l0 = some (.lst (([] : List Addr).map V.ref)) := ze;generalize upd H l0 (.lst []) = H1 at *;have hH1 := hH.mono S1;have h4 := G.hands.2;refine ⟨p, _, _, rfl, .of hH1.tup, rfl, h, rfl, _, .inr (.of hH1.hands), ?_⟩;rw [Za, hH1.hand.1];refine ⟨by omega, by omega, ?_⟩;rw [Zw];refine xh (PvGs p t ds (ym f outs ds) H) ⟨l0, [], _, S1, hl0, h1, ⟨rfl, fun i a x e => by simp at e⟩, rfl⟩ ?_ ?_
    . rintro k σ H2 hk ⟨l, as, v, S2, hn, h2, G2, rfl⟩
      have hd : ds[k]? = some ds[k] := Zb hk;have hH2 := hH.mono S2;simp only [zc, zd, ↓reduceIte];refine ⟨.inl ⟨rfl, _, .of h2⟩, ?_⟩;refine ⟨p, o, h, hs, outs, ds, k, rfl, hH2.k, hk, h4, fun d hd => (G.words1 d hd).2, fun H3 rl bs S3 _ R3 => ⟨rl, rfl, ⟨_, .of R3.lst⟩, fun dd => ?_⟩⟩
      have few := sd (wss := (ds.eraseIdx k).map HD.words) (by rw [Za, ZO hk]; omega) (fun ws hws => by
        obtain ⟨d, hd, rfl⟩ := Zp.mp hws
        exact (G.words1 d (YB hd)).2) _ (Zm _)
      rw [Zt] at few;have hin : ∀ r ∈ zz ((ds.eraseIdx k).map HD.words), cw f rs outs r k ds[k] := fun r hr => hD k _ r hd hr
      have hsu := da ds k;have fk := ib G k (by omega);generalize zz ((ds.eraseIdx k).map HD.words) = os at *;refine yo (xs := bs.map V.ref) (PvG3 k os (ym f outs ds) H3) ⟨Same.refl _, [], rfl, rfl, fun i a x e => by simp at e⟩ ?_ ?_ ?_
      . rintro i ys H4 hi ⟨S4, cs, rfl, T4⟩
        refine ⟨?_, .of (S4 _ _ R3.lst)⟩;rw [Za, T4.len, Za, Zj];exact Zd (ZB _ _) (Zd few (by decide))
      . rintro i y ys H4 hy ⟨S4, cs, rfl, T4⟩
        obtain ⟨c, hc, rfl⟩ := sg hy;have hi : i < os.length := by have := (Zc.mp hc).1; have := R3.tups.len; omega
        have eo : os[i]? = some os[i] := Zb hi;have hc4 := S4 _ _ (R3.tups.at' i c _ hc eo);have hdl := hin _ (Zl hi);have S24 := S2.trans (S3.trans S4);simp only [zc, zd, ↓reduceIte];refine ⟨p, o, h, t, c, hs, outs, ds, f, rs, os[i], k, ds[k], rfl, hH.mono S24, G, S24 _ _ ht, hd, hc4, hdl, fun H5 g ls S5 hg I5 => ⟨by decide, fun tp htp => ?_⟩⟩;have S6 : Same H5 (upd H5 tp (.tup [V.int k, V.ref c, V.ref g])) := Same.upd (Same.refl _) htp;refine ⟨S4.trans (S5.trans S6), cs ++ [tp], by simp, ?_⟩;rw [Zq, eo, Zn];exact (T4.mono (S5.trans S6)).append (GridsAt.one (x := (k, os[i])) ze ((S5.trans S6) _ _ hc4) (S6 _ _ hg) (by rw [ou hd]; exact I5.mono S6))
      . rintro ys H4 ⟨S4, cs, rfl, T4⟩ l2 hl2
        rw [Za, R3.tups.len, Zt] at T4;have S5 : Same H4 (upd H4 l2 (.lst (cs.map V.ref))) := Same.upd (Same.refl _) hl2;have h5 : upd H4 l2 (.lst (cs.map V.ref)) l2 = some (.lst (cs.map V.ref)) := ze;generalize upd H4 l2 (.lst (cs.map V.ref)) = H5 at *;have S25 := S3.trans (S4.trans S5);have hl5 := S25 _ _ h2;have GG := (G2.mono S25).append (T4.mono S5);rw [<- hsu] at GG;refine ⟨_, hl5, _, h5, ?_, l, as ++ cs, _, Same.upd (S2.trans S25) hn, hn, by rw [ze, Zn], ?_, rfl⟩
        . rw [Za, Za, G2.len, T4.len, Za]
          exact Zd (show _ <= 4 * 4096 + 4096 by omega) (by decide)
        . exact GG.past hl5 (G2.mono S25).tup fun x hx => zak G (by have := (ig hx).1; omega)
    . rintro σ H2 ⟨l, as, v, S2, hn, h2, G2, rfl⟩
      simp only [zc, zd, ↓reduceIte];exact q H2 l as S2 hn h2 G2
end
theorem o6 {rows : List (List Int)} {n : Nat} {c : List Nat} (no : vi rows n) (R : RingA (z7 rows) n c) : False := by
  have h1 := NoNeg.rnd (no c.length) rfl R.lt;have := R.neg;omega
theorem zbn {ns : List Int} {as0 : List Addr} (h : ns.map V.int = as0.map V.ref) : ns = [] := by
  cases ns with
  | nil => rfl
  | cons z p => cases as0 <;> simp at h
theorem PaperAt.past {H : Hp} {l a c : Addr} {o : HO} {k : Nat} {as0 : List Addr} {gs : List (Int × List Nat × Addr)} (hl : H l = some (.lst (as0.map V.ref))) (h0 : ∀ a ∈ as0, ∃ us, H a = some (.tup us)) (h : PaperAt H a k c gs) (ne : gs ≠ []) (nr : ∀ e ∈ gs, e.2.1 ≠ []) : PaperAt (upd H l o) a k c gs := by
  obtain ⟨pl, rl, h1, h2, h3⟩ := h.ex;have k1 : a ≠ l := fun e => by rw [e, hl] at h1; cases h1
  have k2 : pl ≠ l := fun e => by
    rw [e, hl] at h2;have z : as0.map V.ref = (gs.map fun e => e.1).map V.int := by simpa using h2
    have := zbn z.symm;simp at this;exact ne this
  have k4 : ∀ e ∈ gs, e.2.2 ≠ l := fun e he q => by
    have hr := h.road e he;rw [q, hl] at hr;have z : as0.map V.ref = (nI e.2.1).map V.int := by simpa using hr
    have := zbn z.symm;rw [nI] at this;simp at this;exact nr e he this
  have k3 : rl ≠ l := fun e => by
    rw [e, hl] at h3;have z : as0.map V.ref = gs.map fun e => V.ref e.2.2 := by simpa using h3
    cases gs with
    | nil => exact ne rfl
    | cons g gs =>
      cases as0 with
      | nil => simp at z
      | cons b as0 =>
        simp at z;obtain ⟨us, hu⟩ := h0 b ZA;have hr := h.road g ZA;rw [<- z.1, hu] at hr;cases hr
  exact ⟨⟨pl, rl, by rw [zr k1]; exact h1, by rw [zr k2]; exact h2, by rw [zr k3]; exact h3⟩, fun e he => by rw [zr (k4 e he)]; exact h.road e he⟩
theorem Great.ne {rows : List (List Int)} {n : Nat} {gs : List (Int × List Nat × Addr)} (g : Great rows n gs) (h : 0 < n) : gs ≠ [] /\ ∀ e ∈ gs, e.2.1 ≠ [] := by
  refine ⟨fun e => ?_, fun e he q => ?_⟩
  . have := g.len
    rw [e] at this;simp at this;omega
  . obtain ⟨t, ht, rfl⟩ := Zy he
    obtain ⟨s, ws, e1, _⟩ := (g.rds.rd t (by rw [<- g.len]; exact ht)).ex;rw [we (Zb ht)] at e1;have e1' : (gs[t]).2.1 = s :: ws := e1;rw [q] at e1';cases e1'
theorem PapersAt.past {H : Hp} {l : Addr} {o : HO} {as0 as : List Addr} {xs : List (Nat × List Str)} {F : Nat × List Str -> List (List Int)} {W : Nat × List Str -> Nat} (hl : H l = some (.lst (as0.map V.ref))) (h0 : ∀ a ∈ as0, ∃ us, H a = some (.tup us)) (hw : ∀ x ∈ xs, 0 < W x) (h : PapersAt H as xs F W) : PapersAt (upd H l o) as xs F W := ⟨h.len, fun i a x e1 e2 => by
  obtain ⟨c, gs, h1, h2, h3⟩ := h.at' i a x e1 e2;obtain ⟨n1, n2⟩ := h3.ne (hw x (Zi e2))
  exact ⟨c, gs, h1.past hl h0 n1 n2, by rw [zr (fun e => by rw [e, hl] at h2; cases h2)]; exact h2, h3⟩⟩
theorem PapersAt.tup {H : Hp} {as : List Addr} {xs : List (Nat × List Str)} {F : Nat × List Str -> List (List Int)} {W : Nat × List Str -> Nat} (h : PapersAt H as xs F W) : ∀ a ∈ as, ∃ us, H a = some (.tup us) := fun a ha => by
  obtain ⟨j, hj, rfl⟩ := Zy ha;have hj2 : j < xs.length := by rw [<- h.len]; exact hj
  obtain ⟨c, gs, h1, _⟩ := h.at' j _ _ (Zb hj) (Zb hj2);obtain ⟨pl, rl, z, _⟩ := h1.ex;exact ⟨_, z⟩
theorem vt {outs : List Str} {ds : List HD} (G : GoodHouse outs ds) {x : Nat × List Str} (h : x.1 < ds.length) : 0 < yu ds x /\ yu ds x <= 8 := by
  obtain ⟨k, o⟩ := x;rw [qd (Zb h)];have := G.words1 _ (Zl h);omega
theorem l9 {K : Fg} {H : Hp} {g : Addr} {ls : List Addr} {f : List Str -> Str} {outs : List Str} {ds : List HD} (G : GoodHouse outs ds) {x : Nat × List Str} (h : x.1 < ds.length) (hg : H g = some (.lst (ls.map V.ref))) (I : IntsAt H ls (ym f outs ds x)) : Gd K H g (ym f outs ds x) (yu ds x) := by
  have h8 := (vt G h).2;obtain ⟨k, o⟩ := x;have hd : ds[k]? = some ds[k] := Zb h;have ro := G.rows _ (Zl h);have e1 := ou (f := f) (outs := outs) (o := o) hd;have e2 := qd (o := o) hd;have lr : (ym f outs ds (k, o)).length = yu ds (k, o) := by rw [e1, e2, colP, Za]; exact ro
  refine ⟨⟨ls, ⟨.of hg, by rw [I.len], fun i r ns a1 a2 => .of (I.at' i r ns a1 a2)⟩, by rw [I.len, lr]⟩, fun i hi => ⟨(ym f outs ds (k, o))[i]'(by omega), Zb (by omega), ?_⟩, h8⟩;have hm : (ym f outs ds (k, o))[i]'(by omega) ∈ ym f outs ds (k, o) := Zl _;generalize (ym f outs ds (k, o))[i]'(by omega) = r at *;rw [e1] at hm;obtain ⟨r', _, rfl⟩ := Zp.mp hm;rw [Za, putP, Za, e2]
def PvVd (p t l gl : Addr) (gas : List Addr) (xs : List (Nat × List Str)) (F : Nat × List Str -> List (List Int)) (W : Nat × List Str -> Nat) (H : Hp) (i : Nat) (σ : L2.St) (H' : Hp) : Prop := ∃ (as : List Addr) (v1 v2 v3 v4 : Option V), Same H H' /\ H' l = some (.lst (as.map V.ref)) /\ H' gl = some (.lst (gas.map V.ref)) /\ GridsAt H' gas xs F /\ PapersAt H' as (xs.take i) F W /\ (∀ (j : Nat) (y : Nat × List Str), j < i -> xs[j]? = some y -> vi (F y) (W y)) /\ σ = [some (.ref p), some (.ref t), some (.ref l), v1, v2, v3, v4]
section
variable {P : Program} {w : World} {K : Fg} {mg : Str -> Option Value} {base : Heap} {a : Ad}
theorem ft (B : Bt mg) (wu : FnAtX P w K mg base "greatest" 7 ["grid"] (jv a K)) (D : zf K mg "paper" jp ["k", "others", "grid"]) : FnAt P w K mg base "paper" 8 ["k", "others", "grid"] (zcl K) := by
  refine FnAt.of D sc_paper (fun vs H Q E h => ?_) (fun f cdv A outer s H vs Q E hr h => ?_)
  . obtain ⟨k, c, g, rows, n, rfl, _⟩ := h
    rfl
  . obtain ⟨k, c, g, rows, n, rfl, hG, h0, no, q⟩ := h
    refine ⟨_, (@zi _ _ _ _ _ (zy (i := 3) sc_paper.nd rfl (Or.inl rfl) (lu wu (hr.mono (by decide)) rfl (za (pv 2) (@zb _)))) (@zh _ _ _ (@zm _ _ _ _ (@y9 _ _ _ _ _ (za (pv 0) (za (pv 1) (za (@zw _ _ _ _ _ _ _ yn (pv 3) (@zg _ _ _ _) (fun _ _ => rfl)) (za (@zw _ _ _ _ _ _ _ yn (pv 3) (@zg _ _ _ _) (fun _ _ => rfl)) (@zb _))))))))), ?_⟩;rw [show zt ["k", "others", "grid", "told"] [V.int k, V.ref c, V.ref g] = [some (V.int k), some (V.ref c), some (V.ref g), none] from rfl];simp only [zc, zd, ↓reduceIte];refine ⟨g, rows, n, rfl, hG, h0, fun H1 v gs S1 Td Gt => ?_, fun H1 cc S1 R => (o6 no R).elim⟩;obtain ⟨tp, pl, rl, rfl, d1, d2, d3⟩ := Td.ex;simp only [zc, zd, ↓reduceIte];refine ⟨_, .of d1, _, rfl, _, .of d1, _, rfl, by decide, fun p hp => ?_⟩;have S2 : Same H1 (upd H1 p (.tup [V.int k, V.ref c, V.ref pl, V.ref rl])) := Same.upd (Same.refl _) hp;exact q _ p gs (S1.trans S2) ⟨⟨pl, rl, ze, S2 _ _ d2, S2 _ _ d3⟩, fun e he => S2 _ _ (Td.road e he)⟩ Gt
theorem jj (B : Bt mg) (uz : FnAt P w K mg base "grids_of" 4 ["house", "table"] ji) (jo : FnAt P w K mg base "ring" 5 ["grid"] (zaa K)) (ft : FnAt P w K mg base "paper" 8 ["k", "others", "grid"] (zcl K)) (D : zf K mg "verdict" nk ["house", "table"]) : FnAt P w K mg base "verdict" 9 ["house", "table"] (du K) := by
  refine FnAt.of D sc_verdict (fun vs H Q E h => ?_) (fun f cdv A outer s H vs Q E hr h => ?_)
  . obtain ⟨p, o, h, t, hs, outs, ds, f, rs, rfl, _⟩ := h
    rfl
  . obtain ⟨p, o, h, t, hs, outs, ds, f, rs, rfl, hH, G, ht, hD, q1, q2⟩ := h
    refine ⟨_, (@zi _ _ _ _ _ (zy (i := 2) sc_verdict.nd rfl (Or.inl rfl) (@y8 _ _ _ _ (@zb _))) (@zi _ _ _ _ _ (yw PassesOwn.never rfl (@yh _ _ _ _ (zj uz (hr.mono (by decide)) rfl (za (pv 0) (za (pv 1) (@zb _))))) (rn rfl (y2 (zo (i := 3) sc_verdict.nd rfl (Or.inl rfl)) (y2 (zo (i := 4) sc_verdict.nd rfl (Or.inl rfl)) (y2 (zo (i := 5) sc_verdict.nd rfl (Or.inl rfl)) (@um _))))) (@zi _ _ _ _ _ (zy (i := 6) sc_verdict.nd rfl (Or.inl rfl) (zj jo (hr.mono (by decide)) rfl (za (pv 5) (@zb _)))) (@zi _ _ _ _ _ (@yz _ _ _ _ _ _ _ _ (@yv _ _ _ _ _ _ _ _ fu (pv 6) (@uc _ _ _) (yq _)) (@zh _ _ _ (@zm _ _ _ _ (@y9 _ _ _ _ _ (za (@qc _ _ _ _) (za (pv 3) (za (pv 4) (za (pv 6) (@zb _)))))))) (@yf _)) (@zh _ _ _ (wn (t8 PySem.F.plainAttrs_list PySem.F.slot_list_append PySem.F.type_list_append up (pv 2) (za (zj ft (hr.mono (by decide)) rfl (za (pv 3) (za (pv 4) (za (pv 5) (@zb _))))) (@zb _)))))))) (@zh _ _ _ (@zm _ _ _ _ (@y9 _ _ _ _ _ (za (@qc _ _ _ _) (za (pv 2) (@zb _)))))))), ?_⟩;rw [show zt ["house", "table", "papers", "k", "others", "grid", "found"] [V.ref p, V.ref t] = [some (V.ref p), some (V.ref t), none, none, none, none, none] from rfl];simp only [zc, zd, ↓reduceIte];refine ⟨by decide, fun l0 hl0 => ?_⟩;have S1 : Same H (upd H l0 (.lst [])) := Same.upd (Same.refl _) hl0;have h1 : upd H l0 (.lst []) l0 = some (.lst (([] : List Addr).map V.ref)) := ze;generalize upd H l0 (.lst []) = H1 at *;refine ⟨p, o, h, t, hs, outs, ds, f, rs, rfl, hH.mono S1, G, S1 _ _ ht, hD, fun H2 gl gas S2 ngl hgl GA => ⟨gl, rfl, ⟨_, .of hgl⟩, ?_⟩⟩;have S12 := S1.trans S2;have hgn : gl ≠ l0 := fun e => by rw [e, h1] at ngl; cases ngl
    have hmem : ∀ x ∈ dueK ds ds.length, x.1 < ds.length := fun x hx => (ig hx).1
    have hfew := ib G _ (Zm _);have h4 := G.hands.2;generalize dueK ds ds.length = xs at *;have hne : ∀ x ∈ xs, ym f outs ds x ≠ [] /\ ∀ r ∈ ym f outs ds x, r ≠ [] := fun x hx => zak G (hmem x hx)
    refine wf (xs := gas.map V.ref) (PvVd p t l0 gl gas xs (ym f outs ds) (yu ds) H) ⟨[], _, _, _, _, S12, S2 _ _ h1, hgl, GA, ⟨rfl, fun i a x e => by simp at e⟩, fun j y h => absurd h (Yy _), rfl⟩ ?_ ?_ ?_
    . rintro i σ H3 hi ⟨as, v1, v2, v3, v4, S3, h3, hg3, GA3, P3, no, rfl⟩
      exact .of hg3
    . rintro i y σ H3 hy ⟨as, v1, v2, v3, v4, S3, h3, hg3, GA3, P3, no, rfl⟩
      obtain ⟨c, hc, rfl⟩ := sg hy;have hi : i < xs.length := by have := (Zc.mp hc).1; have := GA3.len; omega
      have ex : xs[i]? = some xs[i] := Zb hi;have hk := hmem _ (Zl hi);obtain ⟨cc, g, ls, t1, t2, t3, I3⟩ := GA3.at' i c _ hc ex;have hwp := vt G hk;have GD : Gd K H3 g (ym f outs ds xs[i]) (yu ds xs[i]) := l9 G hk t3 I3;generalize hx : xs[i] = x at *;simp only [zc, zd, ↓reduceIte];refine ⟨_, .of t1, rfl, _, _, rfl, _, _, rfl, _, _, rfl, rfl, g, _, _, rfl, GD, hwp.1, fun H4 S4 nn => ?_, fun H4 l4 cy S4 h4' R => ?_⟩
      . have nr : vi (ym f outs ds x) (yu ds x) := NoNeg.all nn
        refine ite2 (fun h => absurd h (by simp)) fun _ => ⟨.inl ⟨rfl, _, .of (S4 _ _ h3)⟩, x.1, cc, g, _, _, rfl, GD.mono S4, hwp.1, nr, fun H5 pa gs S5 hp5 Gt => ?_⟩
        have S45 := S4.trans S5;have hl5 := S45 _ _ h3;have P5 := P3.mono S45;have GA5 := GA3.mono S45;refine ⟨_, hl5, ?_, as ++ [pa], _, _, _, _, Same.upd (S3.trans S45) hl0, by rw [ze, Zn]; rfl, by rw [zr hgn]; exact S45 _ _ hg3, GA5.past hl5 P5.tup hne, ?_, fun j y hj ey => ?_, rfl⟩
        . rw [Za, P5.len, Zj]
          exact ZT (show _ <= 4 * 4096 by omega) (by decide)
        . rw [Zq, ex]
          exact (P5.snoc (x := x) hp5 (S45 _ _ t2) Gt).past hl5 P5.tup fun z hz => by
            rcases ZH.mp hz with q | q
            . exact (vt G (hmem z (List.mem_of_mem_take q))).1
            . rw [ZC.mp q]; exact hwp.1
        . by_cases e : j = i
          . subst e
            rw [ex] at ey;cases ey;exact nr
          . exact no j y (by omega) ey
      . refine ite2 (fun _ => ⟨by decide, fun tp htp => ?_⟩) fun h => absurd (by simp : (!decide (V.ref l4 = V.non)) = true) h
        have S5 : Same H4 (upd H4 tp (.tup [V.str (Str.ofString "ring"), V.int x.1, V.ref cc, V.ref l4])) := Same.upd (Same.refl _) htp;exact q2 _ tp cc l4 i x cy (S3.trans (S4.trans S5)) ex no ze ((S4.trans S5) _ _ t2) (S5 _ _ h4') R
    . rintro σ H3 ⟨as, v1, v2, v3, v4, S3, h3, hg3, GA3, P3, no, rfl⟩
      simp only [zc, zd, ↓reduceIte];rw [Za, GA3.len, Zt] at P3;refine ⟨by decide, fun tp htp => ?_⟩;have S5 : Same H3 (upd H3 tp (.tup [V.str (Str.ofString "pays"), V.ref l0])) := Same.upd (Same.refl _) htp;exact q1 _ tp l0 as (S3.trans S5) ze (S5 _ _ h3) (P3.mono S5)
end
def zce : Sp := fun vs H Q _ => ∃ (b : Addr) (xs : List HX) (ds : List HD), vs = [.ref b] /\ HandsL H b xs ds /\ ds.length <= 4 /\ (∀ d ∈ ds, d.words.length <= 8) /\ ∀ H' l as, Same H H' -> RwsAt H' l as (zz (ds.map HD.words)) -> Q (.ref l) H'
def PvGw (b l h : Addr) (rs : List (List Str)) (ws : List Str) (H : Hp) (m : Nat) (σ : L2.St) (H' : Hp) : Prop := Same H H' /\ ∃ (p : Addr) (as' : List Addr) (v : Option V), RwsAt H' p as' (xk (rs.take m) ws) /\ σ = [some (.ref b), some (.ref l), some (.ref h), some (.ref p), v]
def PvRo (b : Addr) (H : Hp) (ds : List HD) (i : Nat) (σ : L2.St) (H' : Hp) : Prop := Same H H' /\ ∃ (l : Addr) (as : List Addr) (v1 v2 v3 : Option V), RwsAt H' l as (zz ((ds.map HD.words).take i)) /\ σ = [some (.ref b), some (.ref l), v1, v2, v3]
section
variable {P : Program} {w : World} {K : Fg} {mg : Str -> Option Value} {base : Heap} {a : Ad}
theorem kc (D : zf K mg "_law_rows" qw ["hands"]) : FnAt P w K mg base "_law_rows" 1 ["hands"] zce := by
  refine FnAt.of D sc_law_rows (fun vs H Q E h => ?_) (fun f cdv A outer s H vs Q E hr h => ?_)
  . obtain ⟨b, xs, ds, rfl, _⟩ := h
    rfl
  . obtain ⟨b, xs, ds, rfl, hH, h4, h8, q⟩ := h
    refine ⟨_, (@zi _ _ _ _ _ (@zy _ _ 1 _ _ _ _ sc_law_rows.nd rfl (Or.inl rfl) (@y8 _ _ _ _ (@za _ _ _ _ _ (@y9 _ _ _ _ _ (@zb _)) (@zb _) (z8 nofun))) rfl (Or.inl rfl)) (@zi _ _ _ _ _ (yw PassesOwn.never rfl (@yh _ _ _ _ (pv 0)) (zo (i := 2) sc_law_rows.nd rfl (Or.inl rfl)) (@zi _ _ _ _ _ (zy (i := 3) sc_law_rows.nd rfl (Or.inl rfl) (@y8 _ _ _ _ (@zb _))) (@zi _ _ _ _ _ (yw PassesOwn.never rfl (@yh _ _ _ _ (pv 1)) (zo (i := 4) sc_law_rows.nd rfl (Or.inr rfl)) (@zh _ _ _ (zy (i := 3) sc_law_rows.nd rfl (Or.inl rfl) (@zl _ _ _ _ _ _ _ _ zar (pv 3) (yk ["word"] ["hands", "rows", "hand", "grown", "row"] rfl (@yh _ _ _ _ (@zw _ _ _ _ _ _ _ yn (pv 2) (@zg _ _ _ _) (fun _ _ => rfl))) (fun _ => (zo (i := 0) (show (["word", "hands", "rows", "hand", "grown", "row"] : List Str).Nodup by decide +kernel) rfl (Or.inl rfl))) (fun _ => (@yc _)) (fun _ => (@zl _ _ _ _ _ _ _ _ uq (pv 5) (@y9 _ _ _ _ _ (za (pv 0) (@zb _))))) rfl (by decide +kernel) rfl rfl))))) (@zh _ _ _ (zy (i := 1) sc_law_rows.nd rfl (Or.inl rfl) (pv 3)))))) (@zh _ _ _ (@zm _ _ _ _ (pv 1))))), ?_⟩;rw [show zt ["hands", "rows", "hand", "grown", "row"] [V.ref b] = [some (V.ref b), none, none, none, none] from rfl];simp only [zc, zd, ↓reduceIte];refine ⟨by decide, fun e he => ?_⟩;have S1 : Same H (upd H e (.tup [])) := Same.upd (Same.refl _) he;have t1 : upd H e (.tup []) e = some (.tup []) := ze;generalize upd H e (.tup []) = H1 at *;refine ⟨by decide, fun l hl => ?_⟩;have S2 : Same H1 (upd H1 l (.lst [V.ref e])) := Same.upd (Same.refl _) hl;have t2 : upd H1 l (.lst [V.ref e]) l = some (.lst [V.ref e]) := ze;generalize upd H1 l (.lst [V.ref e]) = H2 at *;have hH2 := hH.mono (S1.trans S2);refine ⟨⟨_, .of hH2.at'⟩, ?_⟩;refine wf (xs := xs.map fun x => V.ref x.t) (PvRo b H2 ds) ⟨Same.refl _, l, [e], _, _, _, ⟨t2, TupsAt.one (S2 _ _ t1)⟩, rfl⟩ ?_ ?_ ?_
    . rintro i σ H3 hi ⟨S3, l3, as, v1, v2, v3, hR, rfl⟩
      exact .of (S3 _ _ hH2.at')
    . rintro i x σ H3 hx ⟨S3, l3, as, v1, v2, v3, hR, rfl⟩
      obtain ⟨h, hh, rfl⟩ := yy hx;have hi : i < ds.length := by have := (Zc.mp hh).1; have := hH.len; omega
      have ed : ds[i]? = some ds[i] := Zb hi;have hA := (hH2.mono S3).hand i h _ hh ed;have w8 := h8 _ (Zl hi);have ew : (ds.map HD.words)[i]? = some ds[i].words := by rw [Ze, ed]; rfl
      have hwid := j4 (ds.map HD.words) i (by rw [Za]; omega)
      have few := sd (wss := ds.map HD.words) (by rw [Za]; exact h4) (fun ws hws => by
        obtain ⟨d, hd, rfl⟩ := Zp.mp hws
        exact h8 d hd) i (by rw [Za]; omega)
      simp only [zc, zd, ↓reduceIte];refine ⟨by decide, fun p hp => ?_⟩;have S4 : Same H3 (upd H3 p (.lst [])) := Same.upd (Same.refl _) hp;have t4 : upd H3 p (.lst []) p = some (.lst []) := ze;generalize upd H3 p (.lst []) = H4 at *;have hR4 := hR.mono S4;generalize hrs : zz ((ds.map HD.words).take i) = rs at *;refine ⟨⟨_, .of hR4.lst⟩, ?_⟩;refine wf (xs := as.map V.ref) (PvGw b l3 h.t rs ds[i].words H4) ⟨Same.refl _, p, [], _, ⟨t4, TupsAt.nil⟩, rfl⟩ ?_ ?_ ?_
      . rintro m σ H5 hm ⟨S5, p5, as', v, hG, rfl⟩
        exact .of (S5 _ _ hR4.lst)
      . rintro m x σ H5 hx ⟨S5, p5, as', v, hG, rfl⟩
        obtain ⟨r, er, rfl⟩ := yy hx;have hm : m < rs.length := by have := (Zc.mp er).1; have := hR.tups.len; omega
        have er2 : rs[m]? = some rs[m] := Zb hm;have hr5 := (hR4.mono S5).tups.at' m r _ er er2;have lr5 := hwid _ (Zl hm);have h15 := (S4.trans S5) _ _ hA.tup;have h25 := (S4.trans S5) _ _ hA.words;simp only [zc, zd, ↓reduceIte];refine ⟨_, .of h15, _, z0 (j := 1) rfl, _, rfl, ⟨_, .of h25⟩, fun d => ?_⟩;refine yo (xs := ds[i].words.map V.str) (zd1 rs[m] ds[i].words H5) ⟨[], rfl, TupsAt.nil, Same.refl _⟩ ?_ ?_ ?_
        . rintro k ys H6 hk ⟨bs, rfl, t6, S6⟩
          refine ⟨?_, .of (S6 _ _ h25)⟩;rw [Za, t6.len, v6, Zj];exact Zd (ZB _ _) (Zd w8 (by decide))
        . rintro k y ys H6 hy ⟨bs, rfl, t6, S6⟩
          obtain ⟨z, ez, rfl⟩ := yy hy;simp only [zc, zd, ↓reduceIte];refine ⟨by decide, fun u hu => ?_⟩;have S7 : Same H6 (upd H6 u (.tup [V.str z])) := Same.upd (Same.refl _) hu;have t7 : upd H6 u (.tup [V.str z]) u = some (.tup [V.str z]) := ze;generalize upd H6 u (.tup [V.str z]) = H7 at *;refine ⟨_, (S6.trans S7) _ _ hr5, _, t7, ?_, fun H8 w S8 hw => ?_⟩
          . rw [Za, lr5]
            exact Zd (show i + 1 <= 9 by omega) (by decide)
          . refine ⟨bs ++ [w], by simp, ?_, S6.trans (S7.trans S8)⟩
            rw [Zq, ez]
            show TupsAt H8 (bs ++ [w]) (xv _ (ds[i].words.take k ++ [z]))
            rw [xv, Zn];exact (t6.mono (S7.trans S8)).append (TupsAt.one (by rw [hw]; simp))
        . rintro ys H6 ⟨bs, rfl, t6, S6⟩ l hl
          rw [Za, Zt] at t6;have S7 : Same H6 (upd H6 l (.lst (bs.map V.ref))) := Same.upd (Same.refl _) hl;have t7 : upd H6 l (.lst (bs.map V.ref)) l = some (.lst (bs.map V.ref)) := ze;generalize upd H6 l (.lst (bs.map V.ref)) = H7 at *;have S57 := S6.trans S7;refine ⟨_, S57 _ _ hG.lst, _, t7, ?_, fun p6 hp6 => ?_⟩
          . rw [Za, Za, hG.tups.len, t6.len, v6, qe, Zj]
            have : min m rs.length * ds[i].words.length <= 4096 * 8 := YD (by omega) w8;exact Zd (show _ <= 4096 * 8 + 8 by omega) (by decide)
          . have S8 : Same H7 (upd H7 p6 (.lst (as'.map V.ref ++ bs.map V.ref))) := Same.upd (Same.refl _) hp6
            refine ⟨S5.trans (S57.trans S8), p6, as' ++ bs, _, ⟨by rw [ze, Zn], ?_⟩, rfl⟩;rw [Zq, er2]
            show TupsAt _ _ (xk (rs.take m ++ [rs[m]]) _)
            rw [g9];exact (hG.tups.mono (S57.trans S8)).append (t6.mono (S7.trans S8))
      . rintro σ H5 ⟨S5, p5, as', v, hG, rfl⟩
        simp only [zc, zd, ↓reduceIte];rw [Za, hR.tups.len, Zt] at hG;refine ⟨S3.trans (S4.trans S5), p5, as', _, _, _, ?_, rfl⟩;rw [ww ew, hrs];exact hG
    . rintro σ H3 ⟨S3, l3, as, v1, v2, v3, hR, rfl⟩
      simp only [zc, zd, ↓reduceIte];rw [Za, hH.len, ZG (by rw [Za]; omega)] at hR;exact q H3 l3 as (S1.trans (S2.trans S3)) hR
end
def ya (pl : List Str -> Nat) (rs : List (List Str)) : List (List Key × V) := rs.map fun r => (yr r, V.int (pl r))
theorem zc5 {pl : List Str -> Nat} {rs : List (List Str)} {r : List Str} (h : r ∉ rs) : valV (ya pl rs) (yr r) = none := by
  induction rs with
  | nil => rfl
  | cons q rs ih =>
    rw [ya, ZM, uk (fun z => h (by rw [u4 z]; exact ZA))];exact ih fun z => h (Zv _ z)
theorem j2 {pl : List Str -> Nat} {rs : List (List Str)} {r : List Str} (h : r ∈ rs) : valV (ya pl rs) (yr r) = some (V.int (pl r)) := by
  induction rs with
  | nil => cases h
  | cons q rs ih =>
    rw [ya, ZM]
    by_cases e : q = r
    . rw [oh (by rw [e]), e]
    . rw [uk (fun z => e (u4 z))]
      exact ih ((ZK.mp h).resolve_left fun z => e z.symm)
theorem zee {f : List Str -> Str} {rs : List (List Str)} {r : List Str} (h : r ∉ rs) : valV (xg f rs) (yr r) = none := by
  induction rs with
  | nil => rfl
  | cons q rs ih =>
    rw [xg, ZM, uk (fun z => h (by rw [u4 z]; exact ZA))];exact ih fun z => h (Zv _ z)
theorem zdo {f : List Str -> Str} {rs : List (List Str)} {r : List Str} (h : r ∉ rs) : putK (xg f rs) (yr r) (V.str (f r)) = xg f (rs ++ [r]) := by
  rw [ac _ (zee h), xg, xg, Zn];rfl
theorem zax {pl : List Str -> Nat} {rs : List (List Str)} {r : List Str} (h : r ∉ rs) (p : Nat) : putK (ya pl rs) (yr r) (V.int p) = ya (fun q => if q = r then p else pl q) (rs ++ [r]) := by
  rw [ac _ (zc5 h), ya, ya, Zn]
  congr 1
  . refine Yv fun q hq => ?_
    rw [if_neg fun (z : q = r) => h (z ▸ hq)]
  . simp
theorem ck {pl : List Str -> Nat} {rs : List (List Str)} {r : List Str} (h : r ∈ rs) (p : Nat) : putK (ya pl rs) (yr r) (V.int p) = ya (fun q => if q = r then p else pl q) rs := by
  have ha : ((ya pl rs).any fun kv => decide (kv.1 = yr r)) = true := List.any_eq_true.mpr ⟨(yr r, V.int (pl r)), Zp.mpr ⟨r, h, rfl⟩, decide_eq_true rfl⟩;unfold putK;rw [if_pos ha, ya, ya, List.map_map];refine Yv fun q _ => ?_
  show (if yr q = yr r then (yr q, V.int p) else (yr q, V.int (pl q))) = _
  by_cases e : q = r
  . rw [if_pos (by rw [e]), if_pos e]
  . rw [if_neg fun z => e (u4 z), if_neg e]
theorem mm {H : Hp} {pl : List Str -> Nat} : ∀ {rs : List (List Str)} {as : List Addr}, v7 H (ya pl rs) as -> TupsAt H as rs := by
  intro rs
  induction rs with
  | nil =>
    intro as h;cases h;exact TupsAt.nil
  | cons r rs ih =>
    intro as h
    cases h with
    | cons h1 h2 =>
      have := (TupsAt.one (r := r) (by rw [<- vh]; exact h1)).append (ih h2);exact this
def zaf : Sp := fun vs H Q _ => ∃ (b r l : Addr) (xs : List HX) (outs : List Str) (ds : List HD) (row : List Str) (ws : List Int) (k : Nat), vs = [.ref b, .ref r, .ref l, .int k] /\ HandsL H b xs ds /\ GoodHouse outs ds /\ H r = some (.tup (row.map V.str)) /\ RowOf ds row /\ H l = some (.lst (ws.map V.int)) /\ ws.length = ds.length /\ (∀ n ∈ ws, -(10 ^ 60) <= n /\ n <= 10 ^ 60) /\ k < outs.length /\ ∀ z : Int, Q (.int z) H
def PvSl (b r l : Addr) (k : Nat) (H : Hp) (i : Nat) (σ : L2.St) (H' : Hp) : Prop := H' = H /\ ∃ (z : Int) (v1 v2 : Option V), σ = [some (.ref b), some (.ref r), some (.ref l), some (.int k), some (.int z), v1, v2]
def aq : Sp := fun vs H Q _ => ∃ (o t : Addr) (outs : List Str) (pl : List Str -> Nat) (rs : List (List Str)), vs = [.ref o, .ref t] /\ H o = some (.lst (outs.map V.str)) /\ H t = some (.dT (ya pl rs)) /\ rs.Nodup /\ rs.length <= 4096 /\ (∀ r ∈ rs, pl r < outs.length) /\
  ∀ H' d, Same H H' -> H' d = some (.dT (xg (fun r => outs.getD (pl r) ⟨#[]⟩) rs.reverse)) -> Q (.ref d) H'
def PvTb (o t d : Addr) (H : Hp) (f : List Str -> Str) (rs : List (List Str)) (i : Nat) (σ : L2.St) (H' : Hp) : Prop := ∃ v : Option V, (∀ b u, b ≠ d -> H b = some u -> H' b = some u) /\ H' d = some (.dT (xg f (rs.take i))) /\ σ = [some (.ref o), some (.ref t), some (.ref d), v]
section
variable {P : Program} {w : World} {K : Fg} {mg : Str -> Option Value} {base : Heap} {a : Ad}
theorem mq (B : Bt mg) (D : zf K mg "_law_table" sr ["outcomes", "places"]) : FnAt P w K mg base "_law_table" 1 ["outcomes", "places"] aq := by
  refine FnAt.of D sc_law_table (fun vs H Q E h => ?_) (fun f cdv A outer s H vs Q E hr h => ?_)
  . obtain ⟨o, t, outs, pl, rs, rfl, _⟩ := h
    rfl
  . obtain ⟨o, t, outs, pl, rs, rfl, ho, ht, nd, l4, hp, q⟩ := h
    refine ⟨_, (@zi _ _ _ _ _ (zy (i := 2) sc_law_table.nd rfl (Or.inl rfl) (@zah _ _)) (@zi _ _ _ _ _ (yw PassesOwn.never rfl (@yh _ _ _ _ (@zg1 _ _ _ _ _ _ _ (wo (gb rfl) rfl B.list uo (za (pv 1) (@zb _))) (@vc _ _ _ (@cm _ _ _ _ _ _ g6 (@zg _ _ _ _))))) (zo (i := 3) sc_law_table.nd rfl (Or.inl rfl)) (@zh _ _ _ (gu (@zw _ _ _ _ _ _ _ z9 (pv 0) (@e5 _ _ _ _ _ _ (hu10 hr) (pv 1) (pv 3) (fun _ _ => rfl)) (fun _ _ => rfl)) (zae (pv 2) (pv 3) (iu (hu10 hr)))))) (@zh _ _ _ (@zm _ _ _ _ (pv 2))))), ?_⟩;rw [show zt ["outcomes", "places", "table", "row"] [V.ref o, V.ref t] = [some (V.ref o), some (V.ref t), none, none] from rfl];simp only [zc, zd, ↓reduceIte];intro d hd;have htd : t ≠ d := fun z => by rw [z, hd] at ht; cases ht
    have hod : o ≠ d := fun z => by rw [z, hd] at ho; cases ho
    have S1 : Same H (upd H d (.dT [])) := Same.upd (Same.refl _) hd;have t1 : upd H d (.dT []) d = some (.dT []) := ze;generalize upd H d (.dT []) = H1 at *;refine ⟨_, S1 _ _ ht, fun as hk p hp1 => ?_⟩;have T1 := mm hk;have S2 : Same H1 (upd H1 p (.lst (as.map V.ref))) := Same.upd (Same.refl _) hp1;have t2 : upd H1 p (.lst (as.map V.ref)) p = some (.lst (as.map V.ref)) := ze;generalize upd H1 p (.lst (as.map V.ref)) = H2 at *;refine ⟨_, .of t2, fun p2 hp2 => ?_⟩;rw [<- List.map_reverse];have S3 : Same H2 (upd H2 p2 (.lst (as.reverse.map V.ref))) := Same.upd (Same.refl _) hp2;have t3 : upd H2 p2 (.lst (as.reverse.map V.ref)) p2 = some (.lst (as.reverse.map V.ref)) := ze;generalize upd H2 p2 (.lst (as.reverse.map V.ref)) = H3 at *;refine ⟨⟨_, .of t3⟩, ?_⟩;have S13 := S1.trans (S2.trans S3);have S23 := S2.trans S3
    have T3 : TupsAt H3 as.reverse rs.reverse := by
      refine ⟨by rw [Yj, Yj, T1.len], fun i b r e1 e2 => ?_⟩;have l1 := (Zc.mp e1).1;have l2 := (Zc.mp e2).1;rw [Yj] at l1 l2;rw [List.getElem?_reverse l1] at e1;rw [List.getElem?_reverse l2, <- T1.len] at e2;exact S23 _ _ (T1.at' _ b r e1 e2)
    have nd' : rs.reverse.Nodup := List.pairwise_reverse.mpr (List.Pairwise.imp (fun h => Ne.symm h) nd);have d3 := S23 _ _ t1;have hpd : p2 ≠ d := fun z => by rw [z, S2 _ _ t1] at hp2; cases hp2
    have hne : ∀ b ∈ as.reverse, b ≠ d := fun b hb z => by
      obtain ⟨i, hi⟩ := Yi hb;have l1 := (Zc.mp hi).1;have := T3.at' i b _ hi (Zb (by rw [<- T3.len]; exact l1));rw [z, d3] at this;cases this
    refine wf (xs := as.reverse.map V.ref) (PvTb o t d H3 (fun r => outs.getD (pl r) ⟨#[]⟩) rs.reverse) ⟨_, fun b u _ h => h, d3, rfl⟩ ?_ ?_ ?_
    . rintro i σ H4 hi ⟨v, S4, h4, rfl⟩
      exact .of (S4 _ _ hpd t3)
    . rintro i x σ H4 hx ⟨v, S4, h4, rfl⟩
      obtain ⟨b, hb, rfl⟩ := yy hx;have hi : i < rs.reverse.length := by rw [<- T3.len]; exact (Zc.mp hb).1
      have er : rs.reverse[i]? = some rs.reverse[i] := Zb hi;generalize rs.reverse[i] = r at er;have hm : r ∈ rs := List.mem_reverse.mp (Zi er);have hb4 := S4 _ _ (hne b (Zi hb)) (T3.at' i b r hb er);have ht4 := S4 _ _ htd (S13 _ _ ht);have ho4 := S4 _ _ hod (S13 _ _ ho);simp only [zc, zd, ↓reduceIte]
      have g : DGet H4 t (V.ref b) (some (V.int (pl r))) := by
        have := DGet.t (k := yr r) ht4 (by rw [vh]; exact hb4);rw [j2 hm] at this;exact this
      refine ⟨_, g, ?_⟩
      have hr : r ∉ rs.reverse.take i := fun z => by
        obtain ⟨j, hj⟩ := Yi z;have lj := (Zc.mp hj).1;rw [Zj] at lj;rw [YA (by omega)] at hj;have e1 := (Zc.mp hj).2;have e2 := (Zc.mp er).2;exact Yz.mp nd' j i (by omega) hi (by omega) (e1.trans e2.symm)
      have hl := hp r hm;refine ⟨_, _, rfl, .of ho4, V.str (outs.getD (pl r) ⟨#[]⟩), z0 (by rw [Ze, Zk, Zb hl]; rfl), _, DPut.t (k := yr r) h4 (by rw [vh]; exact hb4) ?_, _, fun c u hc h => ?_, ?_, rfl⟩
      . rw [xg, Za, Zj]
        exact ZT (ZB _ _) (ZT (by rw [Yj]; exact l4) (by decide))
      . rw [zr hc]
        exact S4 _ _ hc h
      . rw [ze, zdo hr, Zq, er]
        rfl
    . rintro σ H4 ⟨v, S4, h4, rfl⟩
      simp only [zc, zd, ↓reduceIte];rw [Za, T3.len, Zt] at h4;refine q H4 d (fun b u hb => ?_) h4
      by_cases z : b = d
      . rw [z, hd] at hb
        cases hb
      . exact S4 _ _ z (S13 _ _ hb)
theorem mj (B : Bt mg) (D : zf K mg "_law_score" su ["hands", "row", "weights", "place"]) : FnAt P w K mg base "_law_score" 1 ["hands", "row", "weights", "place"] zaf := by
  refine FnAt.of D sc_law_score (fun vs H Q E h => ?_) (fun f cdv A outer s H vs Q E hr h => ?_)
  . obtain ⟨b, r, l, xs, outs, ds, row, ws, k, rfl, _⟩ := h
    rfl
  . obtain ⟨b, r, l, xs, outs, ds, row, ws, k, rfl, hH, G, hrw, R, hl, lw, bw, hk, q⟩ := h
    refine ⟨_, (@zi _ _ _ _ _ (zy (i := 4) sc_law_score.nd rfl (Or.inl rfl) (@zg _ _ _ _)) (@zi _ _ _ _ _ (yw PassesOwn.never rfl (yi rfl B.range (za (zn zq rfl B.len ye (za (pv 0) (@zb _))) (@zb _))) (zo (i := 5) sc_law_score.nd rfl (Or.inl rfl)) (@zi _ _ _ _ _ (zy (i := 6) sc_law_score.nd rfl (Or.inl rfl) (t8 PySem.F.plainAttrs_list PySem.F.slot_list_index PySem.F.type_list_index jd (@zw _ _ _ _ _ _ _ yn (@zw _ _ _ _ _ _ _ z9 (pv 0) (pv 5) (fun _ _ => rfl)) (@zg _ _ _ _) (fun _ _ => rfl)) (za (@zw _ _ _ _ _ _ _ yn (pv 1) (pv 5) (fun _ _ => rfl)) (@zb _)))) (@zh _ _ _ (zy (i := 4) sc_law_score.nd rfl (Or.inl rfl) (@zl _ _ _ _ _ _ _ _ yp (pv 4) (@zl _ _ _ _ _ _ _ _ zhb (@zw _ _ _ _ _ _ _ z9 (pv 2) (pv 5) (fun _ _ => rfl)) (@zw _ _ _ _ _ _ _ z9 (@zw _ _ _ _ _ _ _ z9 (@zw _ _ _ _ _ _ _ yn (@zw _ _ _ _ _ _ _ z9 (pv 0) (pv 5) (fun _ _ => rfl)) (@zg _ _ _ _) (fun _ _ => rfl)) (pv 6) (fun _ _ => rfl)) (pv 3) (fun _ _ => rfl)))))))) (@zh _ _ _ (@zm _ _ _ _ (pv 4))))), ?_⟩;rw [show zt ["hands", "row", "weights", "place", "score", "j", "t"] [V.ref b, V.ref r, V.ref l, V.int k] = [some (V.ref b), some (V.ref r), some (V.ref l), some (V.int k), none, none, none] from rfl];simp only [zc, zd, ↓reduceIte];have d4 := G.hands;have lx := hH.len;refine ⟨_, .inl (.of hH.at'), ?_, ?_, ?_⟩
    . rw [Za]; omega
    . rw [Za]; omega
    rw [Za, hH.len, show ((ds.length : Nat) : Int).toNat = ds.length by omega];refine xh (PvSl b r l k H) ⟨rfl, 0, _, _, rfl⟩ ?_ ?_
    . rintro i σ H2 hi ⟨rfl, z, v1, v2, rfl⟩
      rw [show (0 : Int) + (i : Int) = ((i : Nat) : Int) by omega];have ed : ds[i]? = some ds[i] := Zb hi;obtain ⟨x, hx⟩ : ∃ x, xs[i]? = some x := ⟨xs[i]'(by omega), by simp⟩;have hA := hH.hand i x _ hx ed;have er : row[i]? = some (row[i]'(by rw [R.1]; exact hi)) := Zb (by rw [R.1]; exact hi);have hz := R.2 i _ _ ed er;generalize row[i]'(by rw [R.1]; exact hi) = y at er hz;have hm := Zl hi;generalize ds[i] = dd at ed hA hz hm;have ew : ws[i]? = some (ws[i]'(by omega)) := Zb (by omega);have bn := bw _ (Zi ew);generalize ws[i]'(by omega) = n at ew bn;have hj := Zz.mpr hz;rw [<- G.rows dd hm] at hj;obtain ⟨g, hg⟩ : ∃ g, x.gs[dd.words.idxOf y]? = some g := ⟨x.gs[dd.words.idxOf y]'(by rw [hA.len]; exact hj), by simp⟩;have eg : dd.worths[dd.words.idxOf y]? = some dd.worths[dd.words.idxOf y] := Zb hj;have hgr := hA.row _ g _ hg eg;have hwm := Zi eg;generalize dd.worths[dd.words.idxOf y] = nn at eg hgr hwm;have lk : k < nn.length := by rw [G.cols dd hm nn hwm]; exact hk
      have en : nn[k]? = some nn[k] := Zb lk;have bnn := G.nums dd hm nn hwm _ (Zl lk);generalize nn[k] = m at en bnn;simp only [zc, zd, ↓reduceIte];refine ⟨_, .of hH.at', _, z0 (v := V.ref x.t) (by rw [Ze, hx]; rfl), _, rfl, _, .of hA.tup, _, z0 (j := 1) rfl, .inl ⟨rfl, _, .of hA.words⟩, _, .of hrw, _, z0 (v := V.str y) (by rw [Ze, er]; rfl), _, rfl, _, .of hA.words, _, ni hz, ?_⟩;refine ⟨_, .of hl, _, z0 (v := V.int n) (by rw [Ze, ew]; rfl), _, .of hH.at', _, z0 (v := V.ref x.t) (by rw [Ze, hx]; rfl), _, rfl, _, .of hA.tup, _, z0 (j := 2) rfl, ?_⟩;refine ⟨_, rfl, _, .of hA.grid, _, z0 (v := V.ref g) (by rw [Ze, hg]; rfl), ?_⟩;exact ⟨_, rfl, _, .of hgr, _, z0 (v := V.int m) (by rw [Ze, en]; rfl), _, rfl, _, rfl, ⟨bn, by omega, by omega⟩, rfl, _, _, _, rfl⟩
    . rintro σ H2 ⟨rfl, z, v1, v2, rfl⟩
      simp only [zc, zd, ↓reduceIte];exact q z
end
theorem jh : ∀ {l : List Nat}, (∀ x ∈ l, 1 <= x) -> 1 <= l.prod
  | [], _ => Zm _
  | x :: l, h => by
    rw [List.prod_cons];exact YD (h x ZA) (jh fun y hy => h y (Zv _ hy))
theorem dz : ∀ {zs : List Int} {m : Nat} {z : Int}, zs[m]? = some z -> zs.idxOf z <= m
  | [], m, z, h => by simp at h
  | y :: zs, 0, z, h => by
    simp at h;subst h;simp
  | y :: zs, m + 1, z, h => by
    rw [List.idxOf_cons]
    cases y == z with
    | true => exact ZE _
    | false => exact YT (dz (by simpa using h))
theorem zbr (y z : Int) : eqV (V.int y) (V.int z) = decide (y = z) := by
  show (y == z) = decide (y = z)
  by_cases h : y = z
  . subst h; simp
  . simp [h]
theorem zfc {zs : List Int} {z : Int} (h : z ∈ zs) : FirstAt (zs.map V.int) (V.int z) (zs.idxOf z) := by
  have hl := Zz.mpr h;refine ⟨rfl, ?_, ⟨V.int z, ?_, ?_⟩, fun m y hm e => ?_⟩
  . rw [ZP]
    intro x hx;obtain ⟨y, _, rfl⟩ := Zp.mp hx;rfl
  . rw [Ze, Zb hl, YM]
    rfl
  . rw [zbr]
    exact decide_eq_true rfl
  . rw [Ze] at e
    have hml : m < zs.length := by omega
    rw [Zb hml] at e;cases e;rw [zbr, decide_eq_false];intro ez;have hle : zs.idxOf z <= m := dz (by rw [Zb hml, ez]);omega
theorem hideD {t : TS} {D : Ends} {σ : L2.St} {H : Hp} (h : ∀ E : Ends, E = D -> t E σ H) : t D σ H := h D rfl
def PvGf (H : Hp) (i : Nat) (ys : List V) (H' : Hp) : Prop := H' = H /\ ∃ gs : List Int, ys = gs.map V.int /\ gs.length = i
def PvPs (a o b l g d : Addr) (mode : Int) (H : Hp) (n : Nat) (rs : List (List Str)) (i : Nat) (σ : L2.St) (H' : Hp) : Prop := ∃ pl : List Str -> Nat, (∀ c u, c ≠ d -> H c = some u -> H' c = some u) /\ H' d = some (.dT (ya pl (rs.take i))) /\ (∀ r ∈ rs.take i, pl r < n) /\ ∃ v1 v2 v3 v4 : Option V, σ = [some (.ref a), some (.ref o), some (.ref b), some (.int mode), some (.ref l), some (.ref g), some (.ref d), v1, v2, v3, v4, none]
def PvSm (st : L2.St) (s : Addr) (H : Hp) (i : Nat) (σ : L2.St) (H' : Hp) : Prop := Same H H' /\ ∃ (zs : List Int) (v : Option V), H' s = some (.lst (zs.map V.int)) /\ zs.length = i /\ σ = st ++ [v, none]
def PvWs (H : Hp) (i : Nat) (ys : List V) (H' : Hp) : Prop := H' = H /\ ∃ ws : List Int, ys = ws.map V.int /\ ws.length = i /\ ∀ n ∈ ws, -(10 ^ 60) <= n /\ n <= 10 ^ 60
theorem kt (a : Int) {n : Int} (h : 0 < n) : 0 <= a % n /\ a % n < n := ⟨ZZ _ (by omega), ZU _ h⟩
def dv (K : Fg) : Sp := fun vs H Q _ => ∃ (a o b : Addr) (ns : List Int) (outs : List Str) (xs : List HX) (ds : List HD), vs = [.ref a, .ref o, .ref b] /\ SqL K H a (ns.map V.int) /\ H o = some (.lst (outs.map V.str)) /\ HandsL H b xs ds /\ GoodHouse outs ds /\
  ∀ (H' : Hp) (t : Addr) (pl : List Str -> Nat), Same H H' -> H' t = some (.dT (ya pl (zz (ds.map HD.words)))) -> (∀ r ∈ zz (ds.map HD.words), pl r < outs.length) -> Q (.ref t) H'
section
variable {P : Program} {w : World} {K : Fg} {mg : Str -> Option Value} {base : Heap} {a : Ad}
theorem o5 (B : Bt mg) (y0 : FnAt P w K mg base "_law_cell_at" 1 ["script", "k"] (kn K)) (wg : FnAt P w K mg base "_law_drawn" 2 ["script", "k"] (fj K)) (kc : FnAt P w K mg base "_law_rows" 1 ["hands"] zce) (mj : FnAt P w K mg base "_law_score" 1 ["hands", "row", "weights", "place"] zaf) (D : zf K mg "_law_places" u8 ["script", "outcomes", "hands"]) : FnAt P w K mg base "_law_places" 3 ["script", "outcomes", "hands"] (dv K) := by
  refine FnAt.of D sc_law_places (fun vs H Q E h => ?_) (fun f cdv A outer s H vs Q E hr h => ?_)
  . obtain ⟨a, o, b, ns, outs, xs, ds, rfl, _⟩ := h
    rfl
  . obtain ⟨a, o, b, ns, outs, xs, ds, rfl, ha, ho, hH, G, q⟩ := h
    refine ⟨_, (@zi _ _ _ _ _ (zy (i := 3) sc_law_places.nd rfl (Or.inl rfl) (@zl _ _ _ _ _ _ _ _ yl (zj y0 (hr.mono (by decide)) rfl (za (pv 0) (za (@zg _ _ _ _) (@zb _)))) (@zg _ _ _ _))) (@zi _ _ _ _ _ (w6 (i := 4) ["j"] ["script", "outcomes", "hands", "mode", "weights", "gifts", "places", "row", "place", "sums", "i", "cell"] sc_law_places.nd rfl rfl rfl (yi rfl B.range (za (zn zq rfl B.len ye (za (pv 2) (@zb _))) (@zb _))) (fun _ => (zo (i := 0) (show (["j", "script", "outcomes", "hands", "mode", "weights", "gifts", "places", "row", "place", "sums", "i", "cell"] : List Str).Nodup by decide +kernel) rfl (Or.inl rfl))) (fun _ => (@yc _)) (fun _ => (@zl _ _ _ _ _ _ _ _ yp (@zg _ _ _ _) (@zl _ _ _ _ _ _ _ _ yl (zj wg (hr.mono (by decide)) rfl (za (pv 1) (za (@zl _ _ _ _ _ _ _ _ yp (@zg _ _ _ _) (pv 0)) (@zb _)))) (@zg _ _ _ _)))) rfl (by decide +kernel) rfl rfl rfl) (@zi _ _ _ _ _ (@yz _ _ _ _ _ _ _ _ (@yv _ _ _ _ _ _ _ _ pq (pv 3) (@zg _ _ _ _) (yq _)) (@zh _ _ _ (w6 (i := 4) ["j"] ["script", "outcomes", "hands", "mode", "weights", "gifts", "places", "row", "place", "sums", "i", "cell"] sc_law_places.nd rfl rfl rfl (yi rfl B.range (za (zn zq rfl B.len ye (za (pv 2) (@zb _))) (@zb _))) (fun _ => (zo (i := 0) (show (["j", "script", "outcomes", "hands", "mode", "weights", "gifts", "places", "row", "place", "sums", "i", "cell"] : List Str).Nodup by decide +kernel) rfl (Or.inl rfl))) (fun _ => (@yc _)) (fun _ => (wo zeo rfl B.int bf (za (@se _ _ _ _ _ _ _ _ pq (pv 0) (@zg _ _ _ _) (yq _)) (@zb _)))) rfl (by decide +kernel) rfl rfl rfl)) (@yf _)) (@zi _ _ _ _ _ (w6 (i := 5) ["i"] ["script", "outcomes", "hands", "mode", "weights", "gifts", "places", "row", "place", "sums", "i?", "cell"] sc_law_places.nd rfl rfl rfl (yi rfl B.range (za (zn zq rfl B.len ye (za (pv 1) (@zb _))) (@zb _))) (fun _ => (zo (i := 0) (show (["i", "script", "outcomes", "hands", "mode", "weights", "gifts", "places", "row", "place", "sums", "i?", "cell"] : List Str).Nodup by decide +kernel) rfl (Or.inl rfl))) (fun _ => (@yc _)) (fun _ => (@zl _ _ _ _ _ _ _ _ yl (zj wg (hr.mono (by decide)) rfl (za (pv 1) (za (@zl _ _ _ _ _ _ _ _ yp (@zg _ _ _ _) (pv 0)) (@zb _)))) (@zg _ _ _ _))) rfl (by decide +kernel) rfl rfl rfl) (@zi _ _ _ _ _ (zy (i := 6) sc_law_places.nd rfl (Or.inl rfl) (@zah _ _)) (@zi _ _ _ _ _ (yw PassesOwn.never rfl (@yh _ _ _ _ (zj kc (hr.mono (by decide)) rfl (za (pv 2) (@zb _)))) (zo (i := 7) sc_law_places.nd rfl (Or.inl rfl)) (@zi _ _ _ _ _ (zy (i := 8) sc_law_places.nd rfl (Or.inl rfl) (@zl _ _ _ _ _ _ _ _ yl (zj wg (hr.mono (by decide)) rfl (za (pv 0) (za (@zl _ _ _ _ _ _ _ _ yp (@zg _ _ _ _) (zn dh rfl B.len ye (za (pv 6) (@zb _)))) (@zb _)))) (zn zq rfl B.len ye (za (pv 1) (@zb _))))) (@zi _ _ _ _ _ (@yz _ _ _ _ _ _ _ _ (@yv _ _ _ _ _ _ _ _ i4 (pv 3) (@zg _ _ _ _) (yq _)) (@zi _ _ _ _ _ (zy (i := 9) sc_law_places.nd rfl (Or.inl rfl) (@y8 _ _ _ _ (@zb _))) (@zi _ _ _ _ _ (yw PassesOwn.never rfl (yi rfl B.range (za (zn zq rfl B.len ye (za (pv 1) (@zb _))) (@zb _))) (zo (i := 10) sc_law_places.nd rfl (Or.inl rfl)) (@zh _ _ _ (wn (t8 PySem.F.plainAttrs_list PySem.F.slot_list_append PySem.F.type_list_append up (pv 9) (za (@zl _ _ _ _ _ _ _ _ yp (zj mj (hr.mono (by decide)) rfl (za (pv 2) (za (pv 7) (za (pv 4) (za (pv 10) (@zb _)))))) (@zw _ _ _ _ _ _ _ z9 (pv 5) (pv 10) (fun _ _ => rfl))) (@zb _)))))) (@zh _ _ _ (zy (i := 8) sc_law_places.nd rfl (Or.inl rfl) (t8 PySem.F.plainAttrs_list PySem.F.slot_list_index PySem.F.type_list_index jd (pv 9) (za (zn (zef rfl) rfl B.max zfk (za (pv 9) (@zb _))) (@zb _))))))) (@yf _)) (@zh _ _ _ (gu (pv 8) (zae (pv 6) (pv 7) (iu (hu10 hr)))))))) (@zi _ _ _ _ _ (@yz _ _ _ _ _ _ _ _ (@yv _ _ _ _ _ _ _ _ pq (pv 3) (@zg _ _ _ _) (yq _)) (@zi _ _ _ _ _ (zy (i := 11) sc_law_places.nd rfl (Or.inl rfl) (@zl _ _ _ _ _ _ _ _ yl (@zl _ _ _ _ _ _ _ _ xa (zj y0 (hr.mono (by decide)) rfl (za (pv 0) (za (@zg _ _ _ _) (@zb _)))) (@zg _ _ _ _)) (@zl _ _ _ _ _ _ _ _ m4 (@zg _ _ _ _) (@zg _ _ _ _)))) (@zi _ _ _ _ _ (zy (i := 7) sc_law_places.nd rfl (Or.inl rfl) (@zw _ _ _ _ _ _ _ z9 (wo (gb rfl) rfl B.list uo (za (pv 6) (@zb _))) (@zl _ _ _ _ _ _ _ _ yl (pv 11) (zn dh rfl B.len ye (za (pv 6) (@zb _)))) (fun _ _ => rfl))) (@zh _ _ _ (gu (@zl _ _ _ _ _ _ _ _ yl (@zl _ _ _ _ _ _ _ _ xa (pv 11) (@zg _ _ _ _)) (zn zq rfl B.len ye (za (pv 1) (@zb _)))) (zae (pv 6) (pv 7) (iu (hu10 hr))))))) (@yf _)) (@zh _ _ _ (@zm _ _ _ _ (pv 6)))))))))), ?_⟩;rw [show zt ["script", "outcomes", "hands", "mode", "weights", "gifts", "places", "row", "place", "sums", "i", "cell"] [V.ref a, V.ref o, V.ref b] = [some (V.ref a), some (V.ref o), some (V.ref b), none, none, none, none, none, none, none, none, none] from rfl];refine hide2 fun T hT => ?_
    have d4 := G.hands;have o8 := G.outs1;have lx := hH.len;simp only [zc, zd, ↓reduceIte];refine ⟨a, ns, 4, rfl, ha, _, rfl, by decide, ?_⟩;generalize zx ns 4 % 5 = mode;refine ⟨_, .inl (.of hH.at'), ?_⟩;rw [Za, hH.len];refine ⟨by omega, by omega, fun dd => ?_⟩;rw [Zw];refine y7 (PvWs H) ⟨rfl, [], rfl, rfl, fun n hn => by cases hn⟩ ?_ ?_ ?_
    . rintro i ys H2 hi ⟨rfl, ws, rfl, lw, bw⟩
      rw [Za, lw];exact Zd (show i <= 4 by omega) (by decide)
    . rintro i ys H2 hi ⟨rfl, ws, rfl, lw, bw⟩
      simp only [zc, zd, ↓reduceIte];refine ⟨a, ns, 400 + i, by simp, ha, _, rfl, by decide, ?_⟩;have := kt (uw ns (400 + i)) (n := 9) (by decide);refine ⟨rfl, ws ++ [1 + uw ns (400 + i) % 9], by simp, by simp [lw], fun n hn => ?_⟩
      rcases ZH.mp hn with z | z
      . exact bw n z
      . rw [ZC.mp z]
        omega
    . rintro ys H2 ⟨rfl, ws, rfl, lw, bw⟩ l hl
      have S2 : Same H2 (upd H2 l (.lst (ws.map V.int))) := Same.upd (Same.refl _) hl;have t2 : upd H2 l (.lst (ws.map V.int)) l = some (.lst (ws.map V.int)) := ze;generalize upd H2 l (.lst (ws.map V.int)) = H3 at *;rw [hT];clear hT T;refine hideL fun T U hT hU => ?_
      refine hideD fun DD hD => ?_
      have rest : ∀ (l : Addr) (ws : List Int) (H3 : Hp), Same H2 H3 -> H3 l = some (.lst (ws.map V.int)) -> ws.length = ds.length -> (∀ n ∈ ws, -(10 ^ 60) <= n /\ n <= 10 ^ 60) -> U DD [some (V.ref a), some (V.ref o), some (V.ref b), some (V.int mode), some (V.ref l), none, none, none, none, none, none, none] H3 := by
        clear hT T hl t2 l lw bw ws S2 H3;intro l ws H3 S2 t2 lw bw;rw [hU];clear hU U;refine hide2 fun T hT => ?_
        have hH3 := hH.mono S2;have ho3 := S2 _ _ ho;have ha3 := Same.seq S2 ha;simp only [zc, zd, ↓reduceIte];refine ⟨_, .inl (.of ho3), ?_⟩;rw [Za];refine ⟨by omega, by omega, fun dd => ?_⟩;rw [Zw];refine y7 (PvGf H3) ⟨rfl, [], rfl, rfl⟩ ?_ ?_ ?_
        . rintro i ys H4 hi ⟨rfl, gs, rfl, lg⟩
          rw [Za, lg];exact Zd (show i <= 8 by omega) (by decide)
        . rintro i ys H4 hi ⟨rfl, gs, rfl, lg⟩
          simp only [zc, zd, ↓reduceIte];exact ⟨a, ns, 500 + i, by simp, ha3, _, rfl, by decide, rfl, gs ++ [uw ns (500 + i) % 7], by simp, by simp [lg]⟩
        . rintro ys H4 ⟨rfl, gs, rfl, lg⟩ g hg
          have S4 : Same H4 (upd H4 g (.lst (gs.map V.int))) := Same.upd (Same.refl _) hg;have t4 : upd H4 g (.lst (gs.map V.int)) g = some (.lst (gs.map V.int)) := ze;generalize upd H4 g (.lst (gs.map V.int)) = H5 at *;intro d hd;have S5 : Same H5 (upd H5 d (.dT [])) := Same.upd (Same.refl _) hd;have t5 : upd H5 d (.dT []) d = some (.dT []) := ze
          have hd2 : H2 d = none := by
            cases e : H2 d with
            | none => rfl
            | some u => rw [(S2.trans S4) _ _ e] at hd; cases hd
          generalize upd H5 d (.dT []) = H6 at *;rw [hT];clear hT T;refine zdm fun T hT => ?_
          simp only [zc, zd, ↓reduceIte];have hH6 := (hH3.mono (S4.trans S5));have ho6 := (S4.trans S5) _ _ ho3;have ha6 := Same.seq (S4.trans S5) ha3;have hg6 := S5 _ _ t4;have hl6 := (S4.trans S5) _ _ t2;refine ⟨b, xs, ds, rfl, hH6, d4.2, fun d hd => (G.words1 d hd).2, fun H7 p7 as S7 hR => ?_⟩;have hrw := fun r (hr : r ∈ zz (ds.map HD.words)) => rg (ds := ds) hr
          have hnd : (zz (ds.map HD.words)).Nodup := j6 fun ws hws => by
            obtain ⟨d, hd, rfl⟩ := Zp.mp hws;exact G.wordsD d hd
          have few : (zz (ds.map HD.words)).length <= 4096 := by
            have := sd (wss := ds.map HD.words) (by rw [Za]; exact d4.2) (fun ws hws => by
              obtain ⟨d, hd, rfl⟩ := Zp.mp hws
              exact (G.words1 d hd).2) (ds.map HD.words).length (Zm _)
            rw [Zt] at this;exact this
          have hpos : 0 < (zz (ds.map HD.words)).length := by
            rw [e8]
            exact jh fun z hz => by
              obtain ⟨ws, hws, rfl⟩ := Zp.mp hz;obtain ⟨d, hd, rfl⟩ := Zp.mp hws;exact (G.words1 d hd).1
          have d7 := S7 _ _ t5
          have nda : ∀ c u, H7 c = some u -> (∀ kvs, u ≠ .dT kvs) -> c ≠ d := fun c u h1 h2 z => by
            rw [z, d7] at h1;cases h1;exact h2 _ rfl
          refine ⟨_, rfl, ⟨_, .of hR.lst⟩, ?_⟩;generalize hrs : zz (ds.map HD.words) = rs at *;refine wf (xs := as.map V.ref) (PvPs a o b l g d mode H7 outs.length rs) ⟨fun _ => 0, fun c u _ h => h, d7, (fun r hr => by cases hr), _, _, _, _, rfl⟩ ?_ ?_ ?_
          . rintro i σ H8 hi ⟨pl, S8, h8, hp8, v1, v2, v3, v4, rfl⟩
            exact .of (S8 _ _ (nda _ _ hR.lst nofun) hR.lst)
          . rintro i x σ H8 hx ⟨pl, S8, h8, hp8, v1, v2, v3, v4, rfl⟩
            obtain ⟨c, hc, rfl⟩ := yy hx;have hi : i < rs.length := by rw [<- hR.tups.len]; exact (Zc.mp hc).1
            have er : rs[i]? = some rs[i] := Zb hi;generalize rs[i] = r at er;have hm : r ∈ rs := Zi er;have hc7 := hR.tups.at' i c r hc er;have hc8 := S8 _ _ (nda _ _ hc7 nofun) hc7;have o7 := S7 _ _ ho6;have ho8 := S8 _ _ (nda _ _ o7 nofun) o7;have l7 := S7 _ _ hl6;have hl8 := S8 _ _ (nda _ _ l7 nofun) l7;have g7 := S7 _ _ hg6;have hg8 := S8 _ _ (nda _ _ g7 nofun) g7;have hH7 := hH6.mono S7;rw [zcj];refine zdm fun T2 hT2 => ?_
            simp only [zc, zd, ↓reduceIte];have S26 : Same H2 H7 := S2.trans (S4.trans (S5.trans S7));have Sa : Same H2 H8 := fun c u h => S8 _ _ (fun z => by rw [z, hd2] at h; cases h) (S26 _ _ h)
            refine ⟨_, h8, a, ns, 300 + (ya pl (rs.take i)).length, by simp, Same.seq Sa ha, _, .inl (.of ho8), _, rfl, by rw [Za]; omega, ?_⟩;have hdm := kt (uw ns (300 + (ya pl (rs.take i)).length)) (n := ((outs.map V.str).length : Nat)) (by rw [Za]; omega);obtain ⟨p, hp⟩ : ∃ p : Nat, uw ns (300 + (ya pl (rs.take i)).length) % ((outs.map V.str).length : Nat) = (p : Int) := ⟨_, (Yb hdm.1).symm⟩;rw [hp] at hdm ⊢;rw [Za] at hdm;have hpo : p < outs.length := by omega
            clear hdm hp;rw [hT2];clear hT2 T2;refine hideL fun T3 U3 hT3 hU3 => ?_
            refine hideD fun D3 hD3 => ?_
            have rest3 : ∀ (p : Nat) (H9 : Hp) (v3 v4 : Option V), Same H8 H9 -> p < outs.length -> U3 D3 [some (V.ref a), some (V.ref o), some (V.ref b), some (V.int mode), some (V.ref l), some (V.ref g), some (V.ref d), some (V.ref c), some (V.int p), v3, v4, none] H9 := by
              intro p H9 v3 v4 S9 hp;rw [hU3, hD3];simp only [zc, zd, ↓reduceIte]
              have hri : r ∉ rs.take i := fun z => by
                obtain ⟨j, hj⟩ := Yi z;have lj := (Zc.mp hj).1;rw [Zj] at lj;rw [YA (by omega)] at hj;have e1 := (Zc.mp hj).2;have e2 := (Zc.mp er).2;exact Yz.mp hnd j i (by omega) hi (by omega) (e1.trans e2.symm)
              refine ⟨_, DPut.t (k := yr r) (S9 _ _ h8) (by rw [vh]; exact S9 _ _ hc8) ?_, fun q => if q = r then p else pl q, fun e u he h => ?_, ?_, fun q hq => ?_, _, _, _, _, rfl⟩
              . rw [ya, Za, Zj]
                exact ZT (ZB _ _) (ZT few (by decide))
              . rw [zr he]
                exact S9 _ _ (S8 _ _ he h)
              . rw [ze, zax hri, Zq, er]
                rfl
              . rw [Zq, er] at hq
                show (if q = r then p else pl q) < outs.length
                split
                . exact hp
                . rename_i hne
                  rcases ZH.mp hq with z | z
                  . exact hp8 q z
                  . exact absurd (ZC.mp z) hne
            simp only [zc, zd, ↓reduceIte]
            split
            . rw [hT3]
              clear hT3 T3 hU3;simp only [zc, zd, ↓reduceIte];refine ⟨by decide, fun s hs => ?_⟩;have S9 : Same H8 (upd H8 s (.lst [])) := Same.upd (Same.refl _) hs;have t9 : upd H8 s (.lst []) s = some (.lst []) := ze;generalize upd H8 s (.lst []) = H9 at *;refine ⟨_, .inl (.of (S9 _ _ ho8)), ?_⟩;rw [Za];refine ⟨by omega, by omega, ?_⟩;rw [Zw];refine xh (PvSm [some (V.ref a), some (V.ref o), some (V.ref b), some (V.int mode), some (V.ref l), some (V.ref g), some (V.ref d), some (V.ref c), some (V.int p), some (V.ref s)] s H8) ⟨S9, [], _, t9, rfl, rfl⟩ ?_ ?_
              . rintro j σ H10 hj ⟨S10, zs, v, h10, lz, rfl⟩
                rw [show (0 : Int) + (j : Int) = ((j : Nat) : Int) by omega];have eg : gs[j]? = some (gs[j]'(by omega)) := Zb (by omega);generalize gs[j]'(by omega) = y at eg;simp only [zc, zd, ↓reduceIte, ZN, ZR];refine ⟨.inl ⟨rfl, _, .of h10⟩, b, c, l, xs, outs, ds, r, ws, j, rfl, hH.mono (Sa.trans S10), G, S10 _ _ hc8, hrw r hm, S10 _ _ hl8, lw, bw, hj, fun z => ?_⟩;refine ⟨_, .of (S10 _ _ hg8), _, z0 (v := V.int y) (by rw [Ze, eg]; rfl), _, rfl, _, rfl, _, h10, ?_, fun e u he => ?_, zs ++ [z + y], _, by rw [ze]; simp, by simp [lz], rfl⟩
                . rw [Za, lz]
                  exact Zh (show j < 9 by omega) (by decide)
                . rw [zr (fun z => by rw [z, hs] at he; cases he)]
                  exact S10 _ _ he
              . rintro σ H10 ⟨S10, zs, v, h10, lz, rfl⟩
                simp only [zc, zd, ↓reduceIte, ZN, ZR];refine ⟨.inl ⟨rfl, _, .of h10⟩, _, .of h10, by omega, fun m hm1 hm2 => ⟨_, .of h10, _, zfc hm1, rest3 _ H10 _ _ S10 ?_⟩⟩;have := Zz.mpr hm1;omega
            . exact rest3 p H8 v3 v4 (Same.refl _) hpo
          . rintro σ H8 ⟨pl, S8, h8, hp8, v1, v2, v3, v4, rfl⟩
            rw [Za, hR.tups.len, Zt] at h8 hp8;rw [hT];clear hT T;have S26 : Same H2 H7 := S2.trans (S4.trans (S5.trans S7));have Sa : Same H2 H8 := fun c u h => S8 _ _ (fun z => by rw [z, hd2] at h; cases h) (S26 _ _ h)
            simp only [zc, zd, ↓reduceIte]
            have fin : ∀ (H9 : Hp) (pl : List Str -> Nat), Same H2 H9 -> H9 d = some (.dT (ya pl rs)) -> (∀ r ∈ rs, pl r < outs.length) -> DD.rt (V.ref d) H9 := by
              intro H9 pl S9 h9 hp9;rw [hD];exact q H9 d pl S9 h9 hp9
            refine ⟨rfl, ?_⟩
            split
            . refine ⟨a, ns, 4, rfl, Same.seq Sa ha, _, rfl, ⟨by decide, by decide⟩, ⟨by decide, by decide, by decide⟩, by decide, _, h8, fun bs hk p hp => ?_⟩
              have T8 := mm hk;have S9 : Same H8 (upd H8 p (.lst (bs.map V.ref))) := Same.upd (Same.refl _) hp;have t9 : upd H8 p (.lst (bs.map V.ref)) p = some (.lst (bs.map V.ref)) := ze;generalize upd H8 p (.lst (bs.map V.ref)) = H9 at *;generalize zx ns 4 / 5 % 10 ^ Int.toNat 18 = cell;have hpl : (ya pl rs).length = rs.length := by rw [ya, Za]
              have h1 := kt cell (n := (rs.length : Nat)) (by omega);obtain ⟨k, ek⟩ : ∃ k : Nat, cell % (rs.length : Nat) = (k : Int) := ⟨_, (Yb h1.1).symm⟩;rw [ek] at h1;have hk1 : k < rs.length := by omega
              have er : rs[k]? = some rs[k] := Zb hk1;generalize rs[k] = r at er;obtain ⟨c, hc⟩ : ∃ c, bs[k]? = some c := ⟨bs[k]'(by rw [T8.len]; exact hk1), by simp⟩;have hcr := S9 _ _ (T8.at' k c r hc er);have h2 := kt (cell / 257) (n := (outs.length : Nat)) (by omega);obtain ⟨m, em⟩ : ∃ m : Nat, cell / 257 % (outs.length : Nat) = (m : Int) := ⟨_, (Yb h2.1).symm⟩;rw [em] at h2;refine ⟨_, S9 _ _ h8, by rw [hpl]; omega, _, .of t9, V.ref c, by rw [hpl, ek]; exact z0 (by rw [Ze, hc]; rfl), ⟨by decide, by decide⟩, _, .inl (.of ((Sa.trans S9) _ _ ho)), by rw [Za]; omega, ?_⟩;rw [Za, em];refine ⟨_, DPut.t (k := yr r) (S9 _ _ h8) (by rw [vh]; exact hcr) (by rw [hpl]; exact ZT few (by decide)), ?_⟩;refine fin _ (fun q => if q = r then m else pl q) (fun e u he => ?_) ?_ fun q hq => ?_
              . rw [zr (fun z => by rw [z, hd2] at he; cases he)]
                exact (Sa.trans S9) _ _ he
              . rw [ze, ck (Zi er)]
              . show (if q = r then m else pl q) < outs.length
                split
                . omega
                . exact hp8 q hq
            . exact fin H8 pl Sa h8 hp8
      simp only [zc, zd, ↓reduceIte];refine ⟨rfl, ?_⟩
      split
      . rw [hT]
        clear hT;simp only [zc, zd, ↓reduceIte];refine ⟨_, .inl (.of ((hH.mono S2).at')), ?_⟩;rw [Za, hH.len];refine ⟨by omega, by omega, fun dd => ?_⟩;rw [Zw];refine y7 (PvWs H3) ⟨rfl, [], rfl, rfl, fun n hn => by cases hn⟩ ?_ ?_ ?_
        . rintro i ys H4 hi ⟨rfl, ws, rfl, lw, bw⟩
          rw [Za, lw];exact Zd (show i <= 4 by omega) (by decide)
        . rintro i ys H4 hi ⟨rfl, ws, rfl, lw, bw⟩
          simp only [zc, zd, ↓reduceIte];refine ⟨rfl, .inr ⟨rfl, ws ++ [if decide ((0 : Int) + i = 0) = true then 1 else 0], by simp, by simp [lw], fun n hn => ?_⟩⟩
          rcases ZH.mp hn with z | z
          . exact bw n z
          . rw [ZC.mp z]
            split <;> omega
        . rintro ys H4 ⟨rfl, ws, rfl, lw, bw⟩ l4 hl4
          exact rest l4 ws _ (S2.trans (Same.upd (Same.refl _) hl4)) ze lw bw
      . exact rest l ws H3 S2 t2 lw bw
end
def zct : Sp := fun vs H Q _ => ∃ i : Int, vs = [.int i] /\ Q (.bl true) H
def zfh (K : Fg) : Sp := fun vs H Q _ => ∃ (g l : Addr) (rows : List (List Int)) (n : Nat) (ps : List Int), vs = [.ref g, .ref l] /\ Gd K H g rows n /\ H l = some (.lst (ps.map V.int)) /\ ps.length = n /\ Hon rows ps n /\ (∀ t, t < n -> ps.getD t 0 <= gcA rows t t) /\ Q (.bl true) H
def PvHo (g l : Addr) (H : Hp) (i : Nat) (σ : L2.St) (H' : Hp) : Prop := H' = H /\ ∃ v w : Option V, σ = [some (.ref g), some (.ref l), v, w]
def PvHo2 (g l : Addr) (t : Nat) (H : Hp) (i : Nat) (σ : L2.St) (H' : Hp) : Prop := H' = H /\ ∃ w : Option V, σ = [some (.ref g), some (.ref l), some (.int t), w]
section
variable {P : Program} {w : World} {K : Fg} {mg : Str -> Option Value} {base : Heap} {a : Ad}
theorem ka (D : zf K mg "_law_turn" qx ["grid", "s", "t"]) : FnAt P w K mg base "_law_turn" 1 ["grid", "s", "t"] (tm K) := by
  refine FnAt.of D za3 (fun vs H Q E h => ?_) (fun f cdv A outer s H vs Q E hr h => ?_)
  . obtain ⟨g, as, rows, s, t, ns, x, y, rfl, _⟩ := h
    rfl
  . obtain ⟨g, as, rows, s, t, ns, x, y, rfl, G, h1, h2, h3, q⟩ := h
    refine ⟨_, (@zh _ _ _ (@zm _ _ _ _ (@zl _ _ _ _ _ _ _ _ wy (@zw _ _ _ _ _ _ _ z9 (@zw _ _ _ _ _ _ _ z9 (pv 0) (pv 2) (fun _ _ => rfl)) (pv 2) (fun _ _ => rfl)) (@zw _ _ _ _ _ _ _ z9 (@zw _ _ _ _ _ _ _ z9 (pv 0) (pv 2) (fun _ _ => rfl)) (pv 1) (fun _ _ => rfl))))), ?_⟩;rw [show zt ["grid", "s", "t"] [V.ref g, V.int s, V.int t] = [some (V.ref g), some (V.int s), some (V.int t)] from rfl];simp only [zc, zd, ↓reduceIte];obtain ⟨r, e1, e2⟩ := kg G h1;exact ⟨_, G.1, _, e1, r, rfl, _, e2, _, wa h2, _, G.1, _, e1, r, rfl, _, e2, _, wa h3, _, rfl, _, rfl, q⟩
theorem v0 (B : Bt mg) (D : zf K mg "_law_whole" sm ["found"]) : FnAt P w K mg base "_law_whole" 1 ["found"] zct := by
  refine FnAt.of D zaj (fun vs H Q E h => ?_) (fun f cdv A outer s H vs Q E hr h => ?_)
  . obtain ⟨i, rfl, _⟩ := h
    rfl
  . obtain ⟨i, rfl, q⟩ := h
    refine ⟨_, (@zh _ _ _ (@zm _ _ _ _ (@om _ _ _ _ _ _ _ (zn y4 rfl B.isinstance yg (za (pv 0) (za (vy rfl B.int bf) (@zb _)))) (@m5 _ _ _ _ _ (@zfi _ _ _ _ (zn y4 rfl B.isinstance yg (za (pv 0) (za (vy rfl B.bool zcf) (@zb _))))))))), ?_⟩;rw [show zt ["found"] [V.int i] = [some (V.int i)] from rfl];simp only [zc, zd, ↓reduceIte];exact ⟨_, .int _, true, kit_ii, iteT ⟨_, .int _, false, kit_ib, q⟩⟩
theorem on (B : Bt mg) (v0 : FnAt P w K mg base "_law_whole" 1 ["found"] zct) (ka : FnAt P w K mg base "_law_turn" 1 ["grid", "s", "t"] (tm K)) (D : zf K mg "_law_honest" u5 ["grid", "pays"]) : FnAt P w K mg base "_law_honest" 2 ["grid", "pays"] (zfh K) := by
  refine FnAt.of D sc_law_honest (fun vs H Q E h => ?_) (fun f cdv A outer s H vs Q E hr h => ?_)
  . obtain ⟨g, l, rows, n, ps, rfl, _⟩ := h
    rfl
  . obtain ⟨g, l, rows, n, ps, rfl, G, hl, lp, hon, own, q⟩ := h
    refine ⟨_, (@zi _ _ _ _ _ (@yz _ _ _ _ _ _ _ _ (PW.pt (@pc _ _ _ _ _ _ _ (@xj _ _ _ _ (xn (zn y4 rfl B.isinstance yg (za (pv 1) (za (vy rfl B.list uo) (@zb _)))))) (@tf _ _ _ _ (@yv _ _ _ _ _ _ _ _ cz (zn zq rfl B.len ye (za (pv 1) (@zb _))) (zn zq rfl B.len ye (za (pv 0) (@zb _))) (yq _))))) (@zh _ _ _ (@zm _ _ _ _ (@xp _ _ _ _))) (@yf _)) (@zi _ _ _ _ _ (yw PassesOwn.never rfl (yi rfl B.range (za (zn zq rfl B.len ye (za (pv 0) (@zb _))) (@zb _))) (zo (i := 2) sc_law_honest.nd rfl (Or.inl rfl)) (@zi _ _ _ _ _ (@yz _ _ _ _ _ _ _ _ (PW.pt (@pc _ _ _ _ _ _ _ (@xj _ _ _ _ (xn (zj v0 (hr.mono (by decide)) rfl (za (@zw _ _ _ _ _ _ _ z9 (pv 1) (pv 2) (fun _ _ => rfl)) (@zb _))))) (@tf _ _ _ _ (@yv _ _ _ _ _ _ _ _ i4 (@zw _ _ _ _ _ _ _ z9 (pv 1) (pv 2) (fun _ _ => rfl)) (@zw _ _ _ _ _ _ _ z9 (@zw _ _ _ _ _ _ _ z9 (pv 0) (pv 2) (fun _ _ => rfl)) (pv 2) (fun _ _ => rfl)) (yq _))))) (@zh _ _ _ (@zm _ _ _ _ (@xp _ _ _ _))) (@yf _)) (@zh _ _ _ (yw PassesOwn.never rfl (yi rfl B.range (za (zn zq rfl B.len ye (za (pv 0) (@zb _))) (@zb _))) (zo (i := 3) sc_law_honest.nd rfl (Or.inl rfl)) (@zh _ _ _ (@yz _ _ _ _ _ _ _ _ (@yv _ _ _ _ _ _ _ _ i4 (@zl _ _ _ _ _ _ _ _ wy (@zw _ _ _ _ _ _ _ z9 (pv 1) (pv 2) (fun _ _ => rfl)) (@zw _ _ _ _ _ _ _ z9 (pv 1) (pv 3) (fun _ _ => rfl))) (zj ka (hr.mono (by decide)) rfl (za (pv 0) (za (pv 3) (za (pv 2) (@zb _))))) (yq _)) (@zh _ _ _ (@zm _ _ _ _ (@xp _ _ _ _))) (@yf _))))))) (@zh _ _ _ (@zm _ _ _ _ (@xp _ _ _ _))))), ?_⟩;rw [show zt ["grid", "pays", "t", "s"] [V.ref g, V.ref l] = [some (V.ref g), some (V.ref l), none, none] from rfl];simp only [zc, zd, ↓reduceIte];obtain ⟨as, g1, g2⟩ := G.ex;have n8 := G.n8;have hln : ((as.map V.ref).length : Nat) = n := by rw [Za, g2]
    have hgl : SqL K H g (as.map V.ref) := g1.1;refine ⟨_, .lst hl, true, zeq, iteF ⟨_, .inl (.of hl), _, .inl hgl, rfl, ?_⟩⟩;rw [Za, lp, hln, if_neg (by simp)];refine ⟨_, .inl hgl, ?_⟩;rw [hln];refine ⟨by omega, by omega, ?_⟩;rw [Zw];refine xh (PvHo g l H) ⟨rfl, _, _, rfl⟩ ?_ ?_
    . rintro t σ H4 ht ⟨rfl, v, w, rfl⟩
      rw [show (0 : Int) + (t : Int) = ((t : Nat) : Int) by omega];obtain ⟨ns, e1, l1⟩ := G.sq t ht;obtain ⟨r, f1, f2⟩ := kg g1 e1;have hpt := wa (ge (ps := ps) (t := t) (by omega));simp only [zc, zd, ↓reduceIte];refine ⟨_, .of hl, _, hpt, _, rfl, _, rfl, iteF ⟨_, .of hl, _, hpt, _, hgl, _, f1, r, rfl, _, f2, _, wa (p8 e1 (s := t) (by omega)), _, rfl, _, rfl, ite2 (fun h => ?_) fun _ => ?_⟩⟩
      . have := own t ht
        have := of_decide_eq_true h;omega
      refine ⟨_, .inl hgl, ?_⟩;rw [hln];refine ⟨by omega, by omega, ?_⟩;rw [Zw];refine xh (PvHo2 g l t H4) ⟨rfl, _, rfl⟩ ?_ ?_
      . rintro s' σ H5 hs ⟨rfl, w, rfl⟩
        rw [show (0 : Int) + (s' : Int) = ((s' : Nat) : Int) by omega];have hps := wa (ge (ps := ps) (t := s') (by omega));simp only [zc, zd, ↓reduceIte];refine ⟨_, .of hl, _, hpt, _, .of hl, _, hps, _, rfl, _, rfl, qi G hs ht ?_⟩;refine ⟨_, rfl, ite2 (fun h => ?_) fun _ => ⟨rfl, _, rfl⟩⟩;have h1 := of_decide_eq_true h;have h2 := hon t s' ht hs;rw [z7] at h1;omega
      . rintro σ H5 ⟨rfl, w, rfl⟩
        exact ⟨rfl, _, _, rfl⟩
    . rintro σ H4 ⟨rfl, v, w, rfl⟩
      simp only [zc, zd, ↓reduceIte];exact q
end
theorem jy {H H' : Hp} {a : Addr} {u : HO} (S : Same H H') (h : L2.Rd H a u) : L2.Rd H' a u := by
  rcases h with e | ⟨o, e⟩
  . exact .inl (S _ _ e)
  . exact .inr ⟨o, S _ _ e⟩
theorem dget_r {H : Hp} {a b : Addr} {kvs : List (List Key × V)} {k : List Key} (e : L2.Rd H a (.dT kvs)) (eb : H b = some (.tup (k.map kV))) : DGet H a (.ref b) (valV kvs k) := .inr ⟨kvs, k, b, e, rfl, eb, rfl⟩
def putQ (pl : List Str -> Nat) (o : List Str) (k : Nat) (us : List Str) : List Nat := us.map fun u => pl (insP o k u)
def zb8 : Sp := fun vs H Q _ => ∃ (b t c : Addr) (xs : List HX) (outs : List Str) (ds : List HD) (pl : List Str -> Nat) (rs : List (List Str)) (ot : List Str) (k : Nat) (d : HD), vs = [.ref b, .ref t, .int k, .ref c] /\ HandsL H b xs ds /\ GoodHouse outs ds /\ L2.Rd H t (.dT (ya pl rs)) /\ ds[k]? = some d /\ H c = some (.tup (ot.map V.str)) /\ k <= ot.length /\ ot.length <= 8 /\ (∀ u ∈ d.words, insP ot k u ∈ rs /\ pl (insP ot k u) < outs.length) /\
  ∀ H' l ls, Same H H' -> H' l = some (.lst (ls.map V.ref)) -> IntsAt H' ls (colP d (putQ pl ot k d.words)) -> Q (.ref l) H'
def PvGq (H : Hp) (pl : List Str -> Nat) (o : List Str) (k : Nat) (us : List Str) (i : Nat) (ys : List V) (H' : Hp) : Prop := Same H H' /\ ys = (nI (putQ pl o k (us.take i))).map V.int
def PvWc (H : Hp) (ns : List Int) (ps : List Nat) (i : Nat) (ys : List V) (H' : Hp) : Prop := H' = H /\ ys = ((ps.take i).map fun p => ns.getD p 0).map V.int
def PvGl (b t c l g : Addr) (k : Nat) (d : HD) (ps : List Nat) (H : Hp) (i : Nat) (σ : L2.St) (H' : Hp) : Prop := Same H H' /\ ∃ (ls : List Addr) (v : Option V), H' g = some (.lst (ls.map V.ref)) /\ g ∉ ls /\ IntsAt H' ls ((colP d ps).take i) /\ σ = [some (.ref b), some (.ref t), some (.int k), some (.ref c), some (.ref l), some (.ref g), v]
section
variable {P : Program} {w : World} {K : Fg} {mg : Str -> Option Value} {base : Heap} {a : Ad}
theorem ki (B : Bt mg) (D : zf K mg "_law_grid" p0 ["hands", "places", "k", "others"]) : FnAt P w K mg base "_law_grid" 1 ["hands", "places", "k", "others"] zb8 := by
  refine FnAt.of D sc_law_grid (fun vs H Q E h => ?_) (fun f cdv A outer s H vs Q E hr h => ?_)
  . obtain ⟨b, t, c, xs, outs, ds, pl, rs, ot, k, d, rfl, _⟩ := h
    rfl
  . obtain ⟨b, t, c, xs, outs, ds, pl, rs, ot, k, d, rfl, hH, G, ht, hd, hc, hk, h8, hD, q⟩ := h
    refine ⟨_, (@zi _ _ _ _ _ (w6 (i := 4) ["word"] ["hands", "places", "k", "others", "got", "grid", "worths"] sc_law_grid.nd rfl rfl rfl (@yh _ _ _ _ (@zw _ _ _ _ _ _ _ yn (@zw _ _ _ _ _ _ _ z9 (pv 0) (pv 2) (fun _ _ => rfl)) (@zg _ _ _ _) (fun _ _ => rfl))) (fun _ => (zo (i := 0) (show (["word", "hands", "places", "k", "others", "got", "grid", "worths"] : List Str).Nodup by decide +kernel) rfl (Or.inl rfl))) (fun _ => (@yc _)) (fun _ => (@e5 _ _ _ _ _ _ (hu10 hr) (pv 2) (@zl _ _ _ _ _ _ _ _ uq (@zl _ _ _ _ _ _ _ _ uq (@wv _ _ _ _ _ _ _ _ _ _ p9 (pv 4) (@vv _) (@vc _ _ _ (pv 3))) (@y9 _ _ _ _ _ (za (pv 0) (@zb _)))) (@wv _ _ _ _ _ _ _ _ _ _ p9 (pv 4) (@vc _ _ _ (pv 3)) (@vv _))) (fun _ _ => rfl))) rfl (by decide +kernel) rfl rfl rfl) (@zi _ _ _ _ _ (zy (i := 5) sc_law_grid.nd rfl (Or.inl rfl) (@y8 _ _ _ _ (@zb _))) (@zi _ _ _ _ _ (yw PassesOwn.never rfl (@yh _ _ _ _ (@zw _ _ _ _ _ _ _ yn (@zw _ _ _ _ _ _ _ z9 (pv 0) (pv 2) (fun _ _ => rfl)) (@zg _ _ _ _) (fun _ _ => rfl))) (zo (i := 6) sc_law_grid.nd rfl (Or.inr rfl)) (@zh _ _ _ (wn (t8 PySem.F.plainAttrs_list PySem.F.slot_list_append PySem.F.type_list_append up (pv 5) (za (yk ["place"] ["hands", "places", "k", "others", "got", "grid", "worths"] rfl (@yh _ _ _ _ (pv 4)) (fun _ => (zo (i := 0) (show (["place", "hands", "places", "k", "others", "got", "grid", "worths"] : List Str).Nodup by decide +kernel) rfl (Or.inl rfl))) (fun _ => (@yc _)) (fun _ => (@zw _ _ _ _ _ _ _ z9 (pv 7) (pv 0) (fun _ _ => rfl))) rfl (by decide +kernel) rfl rfl) (@zb _)))))) (@zh _ _ _ (@zm _ _ _ _ (pv 5)))))), ?_⟩;rw [show zt ["hands", "places", "k", "others", "got", "grid", "worths"] [V.ref b, V.ref t, V.int k, V.ref c] = [some (V.ref b), some (V.ref t), some (V.int k), some (V.ref c), none, none, none] from rfl];refine zdm fun T hT => ?_
    simp only [zc, zd, ↓reduceIte];have hkl : k < ds.length := (Zc.mp hd).1;obtain ⟨x, hx⟩ : ∃ x, xs[k]? = some x := ⟨xs[k]'(by rw [hH.len]; exact hkl), by simp⟩;have hA := hH.hand k x d hx hd;have hmd := Zi hd;have w8 := (G.words1 d hmd).2;have ro := G.rows d hmd;refine ⟨_, .of hH.at', _, z0 (v := V.ref x.t) (by rw [Ze, hx]; rfl), x.t, rfl, _, .of hA.tup, _, rfl, x.w, rfl, ⟨_, .of hA.words⟩, fun dd => ?_⟩;refine yo (xs := d.words.map V.str) (PvGq H pl ot k d.words) ⟨Same.refl _, rfl⟩ ?_ ?_ ?_
    . rintro i ys H2 hi ⟨S2, rfl⟩
      refine ⟨?_, .of (S2 _ _ hA.words)⟩;rw [Za, nI, Za, putQ, Za, Zj];exact Zd (ZB _ _) (Zd w8 (by decide))
    . rintro i y ys H2 hy ⟨S2, rfl⟩
      obtain ⟨u, hu, rfl⟩ := yy hy;obtain ⟨z1, z2⟩ := hD u (Zi hu);simp only [zc, zd, ↓reduceIte];refine ⟨_, S2 _ _ hc, fun H1 p1 S1 h1 => ⟨by decide, fun p2 hp2 => ?_⟩⟩;rw [j0 (by rw [Za]; exact hk)] at h1;have T2 : Same H1 (upd H1 p2 (.tup [V.str u])) := Same.upd (Same.refl _) hp2;refine ⟨_, T2 _ _ h1, _, ze, ?_, fun H3 p3 S3 h3 => ?_⟩
      . rw [Zj, Za]
        exact Zd (show _ <= 9 by simp; omega) (by decide)
      have S23 := S2.trans (S1.trans (T2.trans S3));refine ⟨_, S23 _ _ hc, fun H4 p4 S4 h4 => ?_⟩;rw [ma (by rw [Za]; exact hk)] at h4;refine ⟨_, S4 _ _ h3, _, h4, ?_, fun H5 p5 S5 h5 => ?_⟩
      . simp only [Zo, Zj, Ye, Za, ZL, Ym]
        exact Zd (show _ <= 17 by omega) (by decide)
      have S25 := S23.trans (S4.trans S5)
      have hrow : H5 p5 = some (.tup ((insP ot k u).map V.str)) := by
        rw [h5, insP];simp
      have gt : DGet H5 t (.ref p5) (some (V.int (pl (insP ot k u)))) := by
        have := dget_r (k := yr (insP ot k u)) (jy S25 ht) (b := p5) (by rw [vh]; exact hrow)
        rwa [j2 z1] at this
      refine ⟨_, gt, S25, ?_⟩;rw [Zq, hu];simp [putQ, nI]
    . rintro ys H2 ⟨S2, rfl⟩ l hl
      rw [Za, Zt];have S3 : Same H2 (upd H2 l (.lst ((nI (putQ pl ot k d.words)).map V.int))) := Same.upd (Same.refl _) hl;have h3 : upd H2 l (.lst ((nI (putQ pl ot k d.words)).map V.int)) l = some (.lst ((nI (putQ pl ot k d.words)).map V.int)) := ze;generalize upd H2 l (.lst ((nI (putQ pl ot k d.words)).map V.int)) = H3 at *;have S13 := S2.trans S3;have hH3 := hH.mono S13;have hA3 := hA.mono S13
      have hps : ∀ p ∈ putQ pl ot k d.words, p < outs.length := fun p hp => by
        obtain ⟨u, hu, rfl⟩ := Zp.mp hp;exact (hD u hu).2
      have lps : (putQ pl ot k d.words).length = d.words.length := by rw [putQ, Za]
      generalize putQ pl ot k d.words = ps at *;rw [hT];clear hT T;simp only [zc, zd, ↓reduceIte];refine ⟨by decide, fun g hg => ?_⟩;have S4 : Same H3 (upd H3 g (.lst [])) := Same.upd (Same.refl _) hg;have t4 : upd H3 g (.lst []) g = some (.lst []) := ze;generalize upd H3 g (.lst []) = H4 at *;have hH4 := hH3.mono S4;have hA4 := hA3.mono S4;refine ⟨_, .of hH4.at', _, z0 (v := V.ref x.t) (by rw [Ze, hx]; rfl), x.t, rfl, _, .of hA4.tup, _, rfl, x.g, rfl, ⟨_, .of hA4.grid⟩, ?_⟩;refine wf (xs := x.gs.map V.ref) (PvGl b t c l g k d ps H3) ⟨S4, [], _, t4, (by simp), ⟨rfl, fun i a r e => by simp at e⟩, rfl⟩ ?_ ?_ ?_
      . rintro i σ H5 hi ⟨S5, ls, v, h5, ng, T5, rfl⟩
        exact .of (S5 _ _ hA3.grid)
      . rintro i y σ H5 hy ⟨S5, ls, v, h5, ng, T5, rfl⟩
        obtain ⟨e, he, rfl⟩ := sg hy;have hi : i < d.worths.length := by have := (Zc.mp he).1; have := hA3.len; omega
        have er : d.worths[i]? = some d.worths[i] := Zb hi;have hrow := S5 _ _ (hA3.row i e _ he er);have hcl := G.cols d hmd _ (Zl hi);have hl5 := S5 _ _ h3;simp only [zc, zd, ↓reduceIte];refine ⟨.inl ⟨rfl, _, .of h5⟩, ⟨_, .of hl5⟩, fun dd => ?_⟩;refine yo (xs := (nI ps).map V.int) (PvWc H5 d.worths[i] ps) ⟨rfl, rfl⟩ ?_ ?_ ?_
        . rintro j ys H6 hj ⟨rfl, rfl⟩
          refine ⟨?_, .of hl5⟩;rw [Za, Za, Zj];exact Zd (ZB _ _) (Zd (show _ <= 8 by omega) (by decide))
        . rintro j y ys H6 hy ⟨rfl, rfl⟩
          obtain ⟨z, hz, rfl⟩ := ip hy;rw [nI, Ze] at hz
          obtain ⟨p, hpl⟩ : ∃ y, ps[j]? = some y := by
            cases e : ps[j]? with
            | none => rw [e] at hz; cases hz
            | some y => exact ⟨y, rfl⟩
          rw [hpl] at hz;cases hz;have lt := hps p (Zi hpl);rw [<- hcl] at lt;have ex : (d.worths[i])[p]? = some ((d.worths[i]).getD p 0) := by rw [Zk, Zb lt]; rfl
          simp only [zc, zd, ↓reduceIte];refine ⟨_, .of hrow, _, wa ex, rfl, ?_⟩;rw [Zq, hpl, Zn, Zn];rfl
        . rintro ys H6 ⟨rfl, rfl⟩ l2 hl2
          rw [Za, nI, Za, Zt];have S7 : Same H6 (upd H6 l2 (.lst ((ps.map fun p => (d.worths[i]).getD p 0).map V.int))) := Same.upd (Same.refl _) hl2;have h7 : upd H6 l2 (.lst ((ps.map fun p => (d.worths[i]).getD p 0).map V.int)) l2 = some (.lst ((ps.map fun p => (d.worths[i]).getD p 0).map V.int)) := ze;have hgl : g ≠ l2 := fun z => by rw [<- z, h5] at hl2; cases hl2
          generalize upd H6 l2 (.lst ((ps.map fun p => (d.worths[i]).getD p 0).map V.int)) = H7 at *;refine ⟨_, S7 _ _ h5, ?_, fun e u he => ?_, ls ++ [l2], _, by rw [ze]; simp, by simp [ng, hgl], ?_, rfl⟩
          . rw [Za, T5.len, Zj, colP, Za]
            exact ZT (ZB _ _) (Zh (show _ < 9 by omega) (by decide))
          . rw [zr (fun z => by rw [z, hg] at he; cases he)]
            exact S7 _ _ (S5 _ _ he)
          . rw [Zq, colP, Ze, er]
            have T7 := (T5.mono S7).snoc h7;refine ⟨T7.len, fun j a r e1 e2 => ?_⟩
            rw [zr (fun z => by
              have := Zi e1;rw [z] at this
              rcases ZH.mp this with q | q
              . exact ng q
              . exact hgl (ZC.mp q))]
            exact T7.at' j a r e1 e2
      . rintro σ H5 ⟨S5, ls, v, h5, ng, T5, rfl⟩
        simp only [zc, zd, ↓reduceIte];rw [Za, hA.len, ZG (by rw [colP, Za]; exact Zm _)] at T5;exact q H5 g ls (S13.trans S5) h5 T5
end
theorem w5 {α β : Type} {g : α -> β} : ∀ {l : List α} {k : Nat}, (l.eraseIdx k).map g = (l.map g).eraseIdx k
  | [], _ => rfl
  | _ :: _, 0 => rfl
  | _ :: l, k + 1 => by simp only [List.eraseIdx_cons_succ, ZM, w5 (l := l)]
theorem dn {α : Type} {o : List α} {wss : List (List α)} {k : Nat} {ws : List α} {u : α} (hk : wss[k]? = some ws) (h : cr o (wss.eraseIdx k)) (hu : u ∈ ws) : cr (insP o k u) wss := by
  have hkl := (Zc.mp hk).1;have lo : o.length + 1 = wss.length := by have := h.1; rw [ZO hkl] at this; omega
  refine ⟨by rw [zgk u (by omega)]; exact lo, fun j vs e => ?_⟩
  by_cases ej : j = k
  . subst ej
    rw [hk] at e;cases e;exact ⟨u, zg6 u (by omega), hu⟩
  . have lt : (o.take k).length = k := by rw [Zj]; omega
    by_cases hj : j < k
    . obtain ⟨z, a1, a2⟩ := h.2 j vs (by rw [Yc, if_pos hj]; exact e)
      refine ⟨z, ?_, a2⟩;rw [insP, Zg (by omega), List.getElem?_take, if_pos hj];exact a1
    . obtain ⟨z, a1, a2⟩ := h.2 (j - 1) vs (by rw [Yc, if_neg (by omega), show j - 1 + 1 = j by omega]; exact e)
      refine ⟨z, ?_, a2⟩;rw [insP, Zf (by omega), lt];obtain ⟨i, hi⟩ : ∃ i, j - k = i + 1 := ⟨j - k - 1, by omega⟩;rw [hi, List.getElem?_cons_succ, YK];rw [show k + i = j - 1 by omega];exact a1
theorem idx_nd {zs : List Str} {z : Str} {t : Nat} (nd : zs.Nodup) (h : zs[t]? = some z) : zs.idxOf z = t := by
  have le := ie h;have hm : z ∈ zs := Zi h;have hx := Zz.mpr hm
  rcases YN le with hlt | e
  . exfalso
    obtain ⟨ht, et⟩ := Zc.mp h;have := Yz.mp nd _ t hx ht hlt;rw [et, YM hx] at this;exact this rfl
  . exact e
theorem ja {ds : List HD} {row : List Str} (h : row ∈ zz (ds.map HD.words)) (k : Nat) : row.eraseIdx k ∈ zz ((ds.eraseIdx k).map HD.words) := by
  rw [rowsP_iff] at h ⊢;rw [w5];generalize ds.map HD.words = wss at h
  by_cases hk : k < wss.length
  . refine ⟨by rw [ZO hk, ZO (by rw [h.1]; exact hk), h.1], fun j ws e => ?_⟩
    rw [Yc] at e
    split at e
    . rename_i hj
      obtain ⟨u, h1, h2⟩ := h.2 j ws e;exact ⟨u, by rw [Yc, if_pos hj]; exact h1, h2⟩
    . rename_i hj
      obtain ⟨u, h1, h2⟩ := h.2 (j + 1) ws e;exact ⟨u, by rw [Yc, if_neg hj]; exact h1, h2⟩
  . rw [List.eraseIdx_of_length_le (by rw [h.1]; omega), List.eraseIdx_of_length_le (by omega)]
    exact h
theorem zcm {ds : List HD} {k : Nat} {ot : List Str} : ∀ {n : Nat}, k < n -> ot ∈ zz ((ds.eraseIdx k).map HD.words) -> (k, ot) ∈ dueK ds n := fun {n} hk h => List.mem_flatMap.mpr ⟨k, ZW.mpr hk, Zp.mpr ⟨ot, h, rfl⟩⟩
def askV (gs : List (Int × List Nat × Addr)) (d : HD) (row : List Str) (k : Nat) : Int := (fOf gs (d.words.idxOf (row.getD k ⟨#[]⟩))).1
def dk (a : Ad) : Sp := fun vs H Q E => ∃ (p o h t c : Addr) (hs : List Addr) (outs : List Str) (ds : List HD) (f : List Str -> Str) (rs : List (List Str)) (row : List Str) (k : Nat) (d : HD), vs = [.ref p, .ref t, .int k, .ref c] /\ HHouse H p o h hs outs ds /\ GoodHouse outs ds /\ H t = some (.dT (xg f rs)) /\ sk f rs outs ds /\ ds[k]? = some d /\ H c = some (.tup (row.map V.str)) /\ row ∈ zz (ds.map HD.words) /\
  (∀ H' gs, Same H H' -> Great (ym f outs ds (k, row.eraseIdx k)) (yu ds (k, row.eraseIdx k)) gs -> Q (.int (askV gs d row k)) H') /\ ∀ H' cy, Same H H' -> RingA (z7 (ym f outs ds (k, row.eraseIdx k))) (yu ds (k, row.eraseIdx k)) cy -> E (.ref a.NoPays) none H'
def AskedAt (f : List Str -> Str) (outs : List Str) (ds : List HD) (row : List Str) (zs : List Int) (m : Nat) : Prop := zs.length = m /\ ∀ (k : Nat) (d : HD), k < m -> ds[k]? = some d -> ∃ gs, Great (ym f outs ds (k, row.eraseIdx k)) (yu ds (k, row.eraseIdx k)) gs /\ zs[k]? = some (askV gs d row k)
def fq (a : Ad) : Sp := fun vs H Q E => ∃ (p o h t c : Addr) (hs : List Addr) (outs : List Str) (ds : List HD) (f : List Str -> Str) (rs : List (List Str)) (row : List Str), vs = [.ref p, .ref t, .ref c] /\ HHouse H p o h hs outs ds /\ GoodHouse outs ds /\ H t = some (.dT (xg f rs)) /\ sk f rs outs ds /\ H c = some (.tup (row.map V.str)) /\ row ∈ zz (ds.map HD.words) /\
  (∀ H' l zs, Same H H' -> H' l = some (.lst (zs.map V.int)) -> AskedAt f outs ds row zs ds.length -> (∀ x ∈ dueK ds ds.length, vi (ym f outs ds x) (yu ds x)) -> Q (.ref l) H') /\ ∀ H' x cy, Same H H' -> x ∈ dueK ds ds.length -> RingA (z7 (ym f outs ds x)) (yu ds x) cy -> E (.ref a.NoPays) none H'
def PvAk (st : L2.St) (gl : Addr) (gas : List Addr) (xs : List (Nat × List Str)) (F : Nat × List Str -> List (List Int)) (W : Nat × List Str -> Nat) (H : Hp) (i : Nat) (σ : L2.St) (H' : Hp) : Prop := ∃ (v1 v2 v3 : Option V), Same H H' /\ (∀ (j : Nat) (y : Nat × List Str), j < i -> xs[j]? = some y -> vi (F y) (W y)) /\ σ = st ++ [v1, v2, v3]
def PvAk2 (f : List Str -> Str) (outs : List Str) (ds : List HD) (row : List Str) (H : Hp) (i : Nat) (ys : List V) (H' : Hp) : Prop := Same H H' /\ ∃ zs : List Int, ys = zs.map V.int /\ AskedAt f outs ds row zs i
section
variable {P : Program} {w : World} {K : Fg} {mg : Str -> Option Value} {base : Heap} {a : Ad}
theorem kr (B : Bt mg) (C : Ct K mg a) (wu : FnAtX P w K mg base "greatest" 7 ["grid"] (jv a K)) (qf : FnAt P w K mg base "grid_of" 3 ["house", "table", "k", "others"] ir) (ul : FnAt P w K mg base "without" 1 ["things", "k"] (je K)) (yt : FnAt P w K mg base "words_of_hand" 1 ["hand"] (wp K 1)) (f_hands_of : FnAt P w K mg base "hands_of" 1 ["house"] (wp K 1)) (D : zf K mg "asked_of" qz ["house", "table", "k", "row"]) : FnAtX P w K mg base "asked_of" 8 ["house", "table", "k", "row"] (dk a) := by
  refine FnAtX.of D sc_asked_of (fun vs H Q E h => ?_) (fun f cdv A outer s H vs Q E hr h => ?_)
  . obtain ⟨p, o, h, t, c, hs, outs, ds, f, rs, row, k, d, rfl, _⟩ := h
    rfl
  . obtain ⟨p, o, h, t, c, hs, outs, ds, f, rs, row, k, d, rfl, hH, G, ht, AD, hd, hc, hrow, q, e⟩ := h
    refine ⟨_, (@zi _ _ _ _ _ (zy (i := 4) sc_asked_of.nd rfl (Or.inl rfl) (@zw _ _ _ _ _ _ _ yn (oz wu (hr.mono (by decide)) (kj rfl) rfl (za (zj qf (hr.mono (by decide)) rfl (za (pv 0) (za (pv 1) (za (pv 2) (za (zj ul (hr.mono (by decide)) rfl (za (pv 3) (za (pv 2) (@zb _)))) (@zb _)))))) (@zb _))) (@zg _ _ _ _) (fun _ _ => rfl))) (@zh _ _ _ (PS.nox (@zm _ _ _ _ (@zw _ _ _ _ _ _ _ z9 (pv 4) (zfg PySem.F.plainAttrs_tuple PySem.F.slot_tuple_index PySem.F.type_tuple_index dg (zj yt (hr.mono (by decide)) rfl (za (@zw _ _ _ _ _ _ _ yn (zj f_hands_of (hr.mono (by decide)) rfl (za (pv 0) (@zb _))) (pv 2) (fun _ _ => rfl)) (@zb _))) (za (@zw _ _ _ _ _ _ _ yn (pv 3) (pv 2) (fun _ _ => rfl)) (@zb _))) (fun _ _ => rfl)))))), ?_⟩;rw [show zt ["house", "table", "k", "row", "pays"] [V.ref p, V.ref t, V.int k, V.ref c] = [some (V.ref p), some (V.ref t), some (V.int k), some (V.ref c), none] from rfl];simp only [zc, zd, ↓reduceIte];have hkl : k < ds.length := (Zc.mp hd).1;have RO := rg hrow;have hot := ja hrow k;have h4 := G.hands.2;obtain ⟨z, hz⟩ : ∃ z, row[k]? = some z := ⟨row[k]'(by rw [RO.1]; exact hkl), by simp⟩;have hzm := RO.2 k d z hd hz;refine ⟨c, row.map V.str, k, rfl, .of hc, by rw [Za, RO.1]; exact hkl, by rw [Za, RO.1]; omega, fun H1 c1 S1 hc1 => ?_⟩;rw [<- w5] at hc1;refine ⟨p, o, h, t, c1, hs, outs, ds, f, rs, row.eraseIdx k, k, d, rfl, hH.mono S1, G, S1 _ _ ht, hd, hc1, AD k d _ hd hot, fun H2 g ls S2 hg I2 => ?_⟩;have Gd2 : Gd K H2 g (ym f outs ds (k, row.eraseIdx k)) (yu ds (k, row.eraseIdx k)) := l9 G hkl hg (by rw [ou hd]; exact I2);refine ⟨g, _, _, rfl, Gd2, (vt G (x := (k, row.eraseIdx k)) hkl).1, fun H3 v gs S3 Td Gt => ?_, fun H3 cy S3 R => e H3 cy (S1.trans (S2.trans S3)) R⟩;have S13 := S1.trans (S2.trans S3);obtain ⟨tp, pl, rl, rfl, d1, d2, d3⟩ := Td.ex;have hH3 := hH.mono S13;obtain ⟨x, hx⟩ : ∃ x, hs[k]? = some x := ⟨hs[k]'(by rw [hH.hand.1]; exact hkl), by simp⟩;obtain ⟨wd, gg, ggs, hA⟩ := hH3.hand.2 k x d hx hd;have hil := Zz.mpr hzm;have lg : d.words.idxOf z < gs.length := by rw [Gt.len, qd hd]; exact hil
    have eV : askV gs d row k = (gs[d.words.idxOf z]).1 := by
      rw [askV, Zk, hz]
      show (fOf gs (d.words.idxOf z)).1 = _
      rw [we (Zb lg)]
    refine ⟨tp, rfl, _, .of d1, _, z0 (j := 0) rfl, p, _, _, rfl, .of hH3.tup, rfl, h, rfl, _, .of hH3.hands, _, z0 (v := V.ref x) (by rw [Ze, hx]; rfl), x, _, _, rfl, .of hA.tup, rfl, ⟨wd, rfl, _, .inl hA.words⟩, _, .of (S13 _ _ hc), _, z0 (v := V.str z) (by rw [Ze, hz]; rfl), wd, rfl, _, .of hA.words, _, ni hzm, pl, rfl, _, .of d2, _, wa (x := (gs[d.words.idxOf z]).1) (by rw [Ze, Zb lg]; rfl), ?_⟩;rw [<- eV];exact q H3 gs S13 Gt
theorem li (B : Bt mg) (C : Ct K mg a) (uz : FnAt P w K mg base "grids_of" 4 ["house", "table"] ji) (x8 : FnAtX P w K mg base "refuse_ring" 6 ["grid"] (ik a K)) (kr : FnAtX P w K mg base "asked_of" 8 ["house", "table", "k", "row"] (dk a)) (f_hands_of : FnAt P w K mg base "hands_of" 1 ["house"] (wp K 1)) (D : zf K mg "asked" jz ["house", "table", "row"]) : FnAtX P w K mg base "asked" 9 ["house", "table", "row"] (fq a) := by
  refine FnAtX.of D sc_asked (fun vs H Q E h => ?_) (fun fa cdv A outer s H vs Q E hr h => ?_)
  . obtain ⟨p, o, h, t, c, hs, outs, ds, f, rs, row, rfl, _⟩ := h
    rfl
  . obtain ⟨p, o, h, t, c, hs, outs, ds, f, rs, row, rfl, hH, G, ht, AD, hc, hrow, q, e⟩ := h
    refine ⟨_, (@zi _ _ _ _ _ (yw (za7 rfl) rfl (@yh _ _ _ _ (zj uz (hr.mono (by decide)) rfl (za (pv 0) (za (pv 1) (@zb _))))) (rn rfl (y2 (zo (i := 3) sc_asked.nd rfl (Or.inl rfl)) (y2 (zo (i := 4) sc_asked.nd rfl (Or.inl rfl)) (y2 (zo (i := 5) sc_asked.nd rfl (Or.inl rfl)) (@um _))))) (@zh _ _ _ (wn (oz x8 (hr.mono (by decide)) (kj rfl) rfl (za (pv 5) (@zb _)))))) (@zh _ _ _ (@zm _ _ _ _ (zfy rfl ["k"] ["house", "table", "row", "k?", "others", "grid"] rfl (yi rfl B.range (za (zn zq rfl B.len ye (za (zj f_hands_of (hr.mono (by decide)) rfl (za (pv 0) (@zb _))) (@zb _))) (@zb _))) (fun _ => (zo (i := 0) (show (["k", "house", "table", "row", "k?", "others", "grid"] : List Str).Nodup by decide +kernel) rfl (Or.inl rfl))) (fun _ => (@yc _)) (fun _ _ => (oz kr (hr.mono (by decide)) df rfl (za (pv 1) (za (pv 2) (za (pv 0) (za (pv 3) (@zb _))))))) rfl (by decide +kernel) rfl rfl)))), ?_⟩;rw [show zt ["house", "table", "row", "k", "others", "grid"] [V.ref p, V.ref t, V.ref c] = [some (V.ref p), some (V.ref t), some (V.ref c), none, none, none] from rfl];simp only [zc, zd, ↓reduceIte];refine ⟨p, o, h, t, hs, outs, ds, f, rs, rfl, hH, G, ht, AD, fun H1 gl gas S1 ngl hgl GA => ⟨gl, rfl, ⟨_, .of hgl⟩, ?_⟩⟩;have hmem : ∀ x ∈ dueK ds ds.length, x.1 < ds.length := fun x hx => (ig hx).1
    refine wf (xs := gas.map V.ref) (PvAk [some (V.ref p), some (V.ref t), some (V.ref c)] gl gas (dueK ds ds.length) (ym f outs ds) (yu ds) H1) ⟨_, _, _, Same.refl _, (fun j y hj => absurd hj (Yy _)), rfl⟩ ?_ ?_ ?_
    . rintro i σ H2 hi ⟨v1, v2, v3, S2, no, rfl⟩
      exact .of (S2 _ _ hgl)
    . rintro i y σ H2 hy ⟨v1, v2, v3, S2, no, rfl⟩
      obtain ⟨b, hb, rfl⟩ := sg hy;have hi : i < (dueK ds ds.length).length := by have := (Zc.mp hb).1; have := GA.len; omega
      have ex : (dueK ds ds.length)[i]? = some (dueK ds ds.length)[i] := Zb hi;have hxm := Zl hi;generalize (dueK ds ds.length)[i] = x at ex hxm;have hk := hmem x hxm;obtain ⟨cc, g, ls, t1, t2, t3, I3⟩ := (GA.mono S2).at' i b _ hb ex;have hwp := vt G hk;have GD : Gd K H2 g (ym f outs ds x) (yu ds x) := l9 G hk t3 I3;simp only [zc, zd, ↓reduceIte, ZN, ZR];refine ⟨_, .of t1, rfl, _, _, rfl, _, _, rfl, _, _, rfl, rfl, g, _, _, rfl, GD, hwp.1, fun H3 S3 nn => ⟨_, _, _, S2.trans S3, fun j y hj ey => ?_, rfl⟩, fun H3 cy S3 R => e H3 x cy (S1.trans (S2.trans S3)) hxm R⟩
      by_cases z : j = i
      . subst z
        rw [ex] at ey;cases ey;exact NoNeg.all nn
      . exact no j y (by omega) ey
    . rintro σ H2 ⟨v1, v2, v3, S2, no, rfl⟩
      rw [Za, GA.len] at no
      have noA : ∀ x ∈ dueK ds ds.length, vi (ym f outs ds x) (yu ds x) := fun x hx => by
        obtain ⟨j, hj⟩ := Yi hx;exact no j x (Zc.mp hj).1 hj
      have S12 := S1.trans S2;have hH2 := hH.mono S12;have h4 := G.hands.2;simp only [zc, zd, ↓reduceIte, ZN, ZR];refine ⟨p, _, _, rfl, .of hH2.tup, rfl, h, rfl, _, .inr (.of hH2.hands), ?_⟩;rw [Za, hH2.hand.1];refine ⟨by omega, by omega, fun dd => ?_⟩;rw [Zw];refine y7 (PvAk2 f outs ds row H2) ⟨Same.refl _, [], rfl, rfl, fun k d hk => absurd hk (Yy _)⟩ ?_ ?_ ?_
      . rintro i ys H3 hi ⟨S3, zs, rfl, A3⟩
        rw [Za, A3.1];exact Zd (show i <= 4 by omega) (by decide)
      . rintro k ys H3 hk ⟨S3, zs, rfl, A3⟩
        have ed : ds[k]? = some ds[k] := Zb hk;generalize ds[k] = d at ed;simp only [zc, zd, ↓reduceIte];refine ⟨p, o, h, t, c, hs, outs, ds, f, rs, row, k, d, rfl, hH2.mono S3, G, (S12.trans S3) _ _ ht, AD, ed, (S12.trans S3) _ _ hc, hrow, fun H4 gs S4 Gt => ⟨S3.trans S4, zs ++ [askV gs d row k], by simp, by simp [A3.1], fun j d' hj ed' => ?_⟩, fun H4 cy S4 R => ?_⟩
        . rcases YN (Nat.le_of_lt_succ hj) with z | z
          . obtain ⟨gs', h1, h2⟩ := A3.2 j d' z ed'
            exact ⟨gs', h1, by rw [Zg (by rw [A3.1]; exact z)]; exact h2⟩
          . subst z
            rw [ed] at ed';cases ed';exact ⟨gs, Gt, by rw [Zf (by rw [A3.1]; exact Zm _), A3.1]; simp⟩
        . exact absurd R (o6 (noA _ (zcm hk (ja hrow k))))
      . rintro ys H3 ⟨S3, zs, rfl, A3⟩ l hl
        have S4 : Same H3 (upd H3 l (.lst (zs.map V.int))) := Same.upd (Same.refl _) hl;exact q _ l zs (S12.trans (S3.trans S4)) ze A3 noA
end
theorem AskedAt.snoc {f : List Str -> Str} {outs : List Str} {ds : List HD} {row : List Str} {zs : List Int} {k : Nat} {d : HD} {gs : List (Int × List Nat × Addr)} (A : AskedAt f outs ds row zs k) (ed : ds[k]? = some d) (Gt : Great (ym f outs ds (k, row.eraseIdx k)) (yu ds (k, row.eraseIdx k)) gs) : AskedAt f outs ds row (zs ++ [askV gs d row k]) (k + 1) := by
  refine ⟨by simp [A.1], fun j d' hj ed' => ?_⟩
  rcases YN (Nat.le_of_lt_succ hj) with z | z
  . obtain ⟨gs', h1, h2⟩ := A.2 j d' z ed'
    exact ⟨gs', h1, by rw [Zg (by rw [A.1]; exact z)]; exact h2⟩
  . subst z
    rw [ed] at ed';cases ed';exact ⟨gs, Gt, by rw [Zf (by rw [A.1]; exact Zm _), A.1]; simp⟩
theorem ar {rows : List (List Int)} {n : Nat} {gs gs' : List (Int × List Nat × Addr)} (g : Great rows n gs) (g' : Great rows n gs') {t : Nat} (ht : t < n) : (fOf gs' t).1 <= (fOf gs t).1 := by
  have e : ∀ t, t < n -> (gs'.map fun e => e.1).getD t 0 = (fOf gs' t).1 := fun t ht => by
    have lg : t < gs'.length := by rw [g'.len]; exact ht
    rw [Zk, Ze, Zb lg, we (Zb lg)];rfl
  have := g.most g'.hon (m := 0) (fun t ht => by rw [e t ht]; have := g'.le t ht; omega) ht;rw [e t ht] at this;omega
theorem AskedAt.uniq {f : List Str -> Str} {outs : List Str} {ds : List HD} {row : List Str} {zs zs' : List Int} (A : AskedAt f outs ds row zs ds.length) (A' : AskedAt f outs ds row zs' ds.length) (hrow : row ∈ zz (ds.map HD.words)) : zs = zs' := by
  refine YQ fun k => ?_
  by_cases hk : k < ds.length
  . have ed : ds[k]? = some ds[k] := Zb hk
    generalize ds[k] = d at ed;obtain ⟨gs, h1, h2⟩ := A.2 k d hk ed;obtain ⟨gs', h1', h2'⟩ := A'.2 k d hk ed;rw [h2, h2'];have RO := rg hrow;obtain ⟨z, hz⟩ : ∃ z, row[k]? = some z := ⟨row[k]'(by rw [RO.1]; exact hk), by simp⟩
    have lt : d.words.idxOf (row.getD k ⟨#[]⟩) < yu ds (k, row.eraseIdx k) := by
      rw [qd ed, Zk, hz];exact Zz.mpr (RO.2 k d z ed hz)
    have a1 := ar h1 h1' lt;have a2 := ar h1' h1 lt
    show some (fOf gs _).1 = some (fOf gs' _).1
    congr 1
    omega
  . rw [ZX (by rw [A.1]; omega), ZX (by rw [A'.1]; omega)]
theorem zej {outs : List Str} {ds : List HD} {pl : List Str -> Nat} {k : Nat} {d : HD} {ot : List Str} (G : GoodHouse outs ds) (hd : ds[k]? = some d) (hp : ∀ u ∈ d.words, pl (insP ot k u) < outs.length) : colP d (putQ pl ot k d.words) = ym (fun r => outs.getD (pl r) ⟨#[]⟩) outs ds (k, ot) := by
  rw [ou hd]
  congr 1
  refine Yv fun u hu => ?_
  have hl := hp u hu
  show _ = outs.idxOf (outs.getD _ _)
  rw [Zk, Zb hl];exact (idx_nd G.outsD (Zb hl)).symm
def Tbl (H : Hp) (p o h t c : Addr) (hs : List Addr) (outs : List Str) (ds : List HD) (f : List Str -> Str) (rs : List (List Str)) (row : List Str) : Prop := HHouse H p o h hs outs ds /\ GoodHouse outs ds /\ H t = some (.dT (xg f rs)) /\ sk f rs outs ds /\ H c = some (.tup (row.map V.str)) /\ row ∈ zz (ds.map HD.words)
def zbz : Sp := fun vs H Q _ => ∃ (p o h t c : Addr) (hs : List Addr) (outs : List Str) (ds : List HD) (f : List Str -> Str) (rs : List (List Str)) (row : List Str) (x : Nat × List Str) (cy : List Nat), vs = [.ref p, .ref t, .ref c] /\ Tbl H p o h t c hs outs ds f rs row /\ x ∈ dueK ds ds.length /\ RingA (z7 (ym f outs ds x)) (yu ds x) cy /\ ∀ H', Same H H' -> Q (.bl true) H'
def J40 (a : Ad) (H4 : Hp) (σ0 : L2.St) (σ : L2.St) (c : Value) (H' : Hp) : Prop := Same H4 H' /\ σ = σ0 /\ c = .ref a.NoPays
def spDue : Sp := fun vs H Q _ => ∃ (b t c : Addr) (xs : List HX) (outs : List Str) (ds : List HD) (pl : List Str -> Nat) (rs : List (List Str)) (row : List Str), vs = [.ref b, .ref t, .ref c] /\ HandsL H b xs ds /\ GoodHouse outs ds /\ L2.Rd H t (.dT (ya pl rs)) /\ H c = some (.tup (row.map V.str)) /\ row ∈ zz (ds.map HD.words) /\ (∀ r ∈ zz (ds.map HD.words), r ∈ rs /\ pl r < outs.length) /\
  (∀ x ∈ dueK ds ds.length, vi (ym (fun r => outs.getD (pl r) ⟨#[]⟩) outs ds x) (yu ds x)) /\ ∀ H' l zs, Same H H' -> H' l = some (.lst (zs.map V.int)) -> AskedAt (fun r => outs.getD (pl r) ⟨#[]⟩) outs ds row zs ds.length -> Q (.ref l) H'
def PvDu (st : L2.St) (l : Addr) (f : List Str -> Str) (outs : List Str) (ds : List HD) (row : List Str) (H : Hp) (i : Nat) (σ : L2.St) (H' : Hp) : Prop := Same H H' /\ ∃ (zs : List Int) (v1 v2 v3 : Option V), H' l = some (.lst (zs.map V.int)) /\ AskedAt f outs ds row zs i /\ σ = st ++ [some (.ref l), v1, v2, v3]
section
variable {P : Program} {w : World} {K : Fg} {mg : Str -> Option Value} {base : Heap} {a : Ad}
theorem qm (B : Bt mg) (C : Ct K mg a) (li : FnAtX P w K mg base "asked" 9 ["house", "table", "row"] (fq a)) (D : zf K mg "_law_refused" ud ["house", "table", "row"]) : FnAt P w K mg base "_law_refused" 10 ["house", "table", "row"] zbz := by
  refine FnAt.of D sc_law_refused (fun vs H Q E h => ?_) (fun f cdv A outer s H vs Q E hr h => ?_)
  . obtain ⟨p, o, h, t, c, hs, outs, ds, f, rs, row, x, cy, rfl, _⟩ := h
    rfl
  . obtain ⟨p, o, h, t, c, hs, outs, ds, f, rs, row, x, cy, rfl, T0, hx, R, q⟩ := h
    refine ⟨_, (@zi _ _ _ _ _ (zy (i := 3) sc_law_refused.nd rfl (Or.inl rfl) (@uc _ _ _)) (@zi _ _ _ _ _ (zdw (i := 4) C.q_TrueError.toErr rfl C.m_TrueError sc_law_refused.nd rfl rfl (fun J pn => (@zh _ _ _ (wn (oz li (hr.mono (by decide)) df rfl (za (pv 0) (za (pv 1) (za (pv 2) (@zb _)))))))) (fun e => (@zh _ _ _ (zy (i := 3) sc_law_refused.nd rfl (Or.inl rfl) (@y8 _ _ _ _ (za (zn zal rfl B.isinstance yg (za (pv 4) (za (wm (v := .ref a.NoPays) rfl C.m_NoPays rfl) (@zb _)))) (za (zn zan rfl B.isinstance yg (za (pv 4) (za (vy rfl B.ValueError d9) (@zb _)))) (za (zn k7 rfl B.isinstance yg (@za _ _ _ _ _ (pv 4) (@za _ _ _ _ _ (@y9 _ _ _ _ _ (@za _ _ _ _ _ (wm (v := .ref a.NoHouse) rfl C.m_NoHouse rfl) (@za _ _ _ _ _ (wm (v := .ref a.NoMenu) rfl C.m_NoMenu rfl) (@za _ _ _ _ _ (wm (v := .ref a.NoRow) rfl C.m_NoRow rfl) (@za _ _ _ _ _ (wm (v := .ref a.NoRule) rfl C.m_NoRule rfl) (@zb _) (z8 nofun)) (z8 nofun)) (z8 nofun)) (z8 nofun))) (@zb _) (z8 nofun)) (z8 nofun))) (za (zn k7 rfl B.isinstance yg (@za _ _ _ _ _ (pv 4) (@za _ _ _ _ _ (@y9 _ _ _ _ _ (@za _ _ _ _ _ (wm (v := .ref a.NoShare) rfl C.m_NoShare rfl) (@za _ _ _ _ _ (wm (v := .ref a.NoStand) rfl C.m_NoStand rfl) (@za _ _ _ _ _ (wm (v := .ref a.NoWeight) rfl C.m_NoWeight rfl) (@za _ _ _ _ _ (wm (v := .ref a.NoWord) rfl C.m_NoWord rfl) (@zb _) (z8 nofun)) (z8 nofun)) (z8 nofun)) (z8 nofun))) (@zb _) (z8 nofun)) (z8 nofun))) (@zb _)))))))))) (@zh _ _ _ (@zm _ _ _ _ (@se _ _ _ _ _ _ _ _ (op_eqF (Nat.lt_of_succ_lt (hu_of hr))) (pv 3) (@y8 _ _ _ _ (za (@xp _ _ _ _) (za (@xp _ _ _ _) (za (@xp _ _ _ _) (za (@xp _ _ _ _) (@zb _)))))) (yq _)))))), ?_⟩;rw [show zt ["house", "table", "row", "kinds", "e"] [V.ref p, V.ref t, V.ref c] = [some (V.ref p), some (V.ref t), some (V.ref c), none, none] from rfl];simp only [zc, zd, ↓reduceIte];obtain ⟨hH, G, ht, AD, hc, hrow⟩ := T0;refine ⟨J40 a H [some (V.ref p), some (V.ref t), some (V.ref c), some V.non, none], fun pn => ?_, fun σ1 c H2 hJ => ?_⟩
    . exact ⟨p, o, h, t, c, hs, outs, ds, f, rs, row, rfl, hH, G, ht, AD, hc, hrow, fun H1 l zs S1 hl A1 no => (o6 (no x hx) R).elim, fun H1 x' cy' S1 hx' R' => ⟨S1, rfl, rfl⟩⟩
    . obtain ⟨S2, rfl, rfl⟩ := hJ
      refine ⟨_, rfl, C.q_NoPays.toErr, C.s_NoPays_TrueError, fun e ea hea => ?_⟩;have Sa : Same H2 (upd H2 ea (ExcO ea a.NoPays)) := Same.upd (Same.refl _) hea;have ha : upd H2 ea (ExcO ea a.NoPays) ea = some (ExcO ea a.NoPays) := ze;generalize upd H2 ea (ExcO ea a.NoPays) = H3 at *;refine ⟨_, rfl, _, rfl, _, ha, C.q_NoPays, _, C.k_NoPays_NoPays, _, rfl, _, rfl, _, ha, C.q_NoPays, _, C.v_NoPays, _, rfl, by decide, fun p1 hp1 => ?_⟩;have Sb : Same H3 (upd H3 p1 (.tup [V.ref a.NoHouse, V.ref a.NoMenu, V.ref a.NoRow, V.ref a.NoRule])) := Same.upd (Same.refl _) hp1;have hb : upd H3 p1 (.tup [V.ref a.NoHouse, V.ref a.NoMenu, V.ref a.NoRow, V.ref a.NoRule]) p1 = some (.tup [V.ref a.NoHouse, V.ref a.NoMenu, V.ref a.NoRow, V.ref a.NoRule]) := ze;generalize upd H3 p1 (.tup [V.ref a.NoHouse, V.ref a.NoMenu, V.ref a.NoRow, V.ref a.NoRule]) = H4 at *;refine ⟨_, rfl, _, Sb _ _ ha, C.q_NoPays, [a.NoHouse, a.NoMenu, a.NoRow, a.NoRule], .of hb, false, mi ⟨C.k_NoPays_NoHouse, C.k_NoPays_NoMenu, C.k_NoPays_NoRow, C.k_NoPays_NoRule, trivial⟩, ?_⟩;refine ⟨_, rfl, by decide, fun p2 hp2 => ?_⟩;have Sc : Same H4 (upd H4 p2 (.tup [V.ref a.NoShare, V.ref a.NoStand, V.ref a.NoWeight, V.ref a.NoWord])) := Same.upd (Same.refl _) hp2;have hcc : upd H4 p2 (.tup [V.ref a.NoShare, V.ref a.NoStand, V.ref a.NoWeight, V.ref a.NoWord]) p2 = some (.tup [V.ref a.NoShare, V.ref a.NoStand, V.ref a.NoWeight, V.ref a.NoWord]) := ze;generalize upd H4 p2 (.tup [V.ref a.NoShare, V.ref a.NoStand, V.ref a.NoWeight, V.ref a.NoWord]) = H5 at *;refine ⟨_, rfl, _, (Sb.trans Sc) _ _ ha, C.q_NoPays, [a.NoShare, a.NoStand, a.NoWeight, a.NoWord], .of hcc, false, mi ⟨C.k_NoPays_NoShare, C.k_NoPays_NoStand, C.k_NoPays_NoWeight, C.k_NoPays_NoWord, trivial⟩, by decide, fun p3 hp3 => ?_⟩;have Sd : Same H5 (upd H5 p3 (.lst [V.bl true, V.bl true, V.bl false, V.bl false])) := Same.upd (Same.refl _) hp3;have hdd : upd H5 p3 (.lst [V.bl true, V.bl true, V.bl false, V.bl false]) p3 = some (.lst [V.bl true, V.bl true, V.bl false, V.bl false]) := ze;generalize upd H5 p3 (.lst [V.bl true, V.bl true, V.bl false, V.bl false]) = H6 at *;simp only [g8, zc, zd, ↓reduceIte];refine ⟨by decide, fun p4 hp4 => ?_⟩;have Se : Same H6 (upd H6 p4 (.lst [V.bl true, V.bl true, V.bl false, V.bl false])) := Same.upd (Same.refl _) hp4;exact ⟨_, .of (Se _ _ hdd), _, .of ze, rfl, rfl, q _ (S2.trans (Sa.trans (Sb.trans (Sc.trans (Sd.trans Se)))))⟩
theorem jc (B : Bt mg) (ki : FnAt P w K mg base "_law_grid" 1 ["hands", "places", "k", "others"] zb8) (wu : FnAtX P w K mg base "greatest" 7 ["grid"] (jv a K)) (on : FnAt P w K mg base "_law_honest" 2 ["grid", "pays"] (zfh K)) (D : zf K mg "_law_due" nv ["hands", "places", "row"]) : FnAt P w K mg base "_law_due" 8 ["hands", "places", "row"] spDue := by
  refine FnAt.of D sc_law_due (fun vs H Q E h => ?_) (fun f cdv A outer s H vs Q E hr h => ?_)
  . obtain ⟨b, t, c, xs, outs, ds, pl, rs, row, rfl, _⟩ := h
    rfl
  . obtain ⟨b, t, c, xs, outs, ds, pl, rs, row, rfl, hH, G, ht, hc, hrow, hpl, no, q⟩ := h
    refine ⟨_, (@zi _ _ _ _ _ (zy (i := 3) sc_law_due.nd rfl (Or.inl rfl) (@y8 _ _ _ _ (@zb _))) (@zi _ _ _ _ _ (yw PassesOwn.never rfl (yi rfl B.range (za (zn zq rfl B.len ye (za (pv 0) (@zb _))) (@zb _))) (zo (i := 4) sc_law_due.nd rfl (Or.inl rfl)) (@zi _ _ _ _ _ (zy (i := 5) sc_law_due.nd rfl (Or.inl rfl) (zj ki (hr.mono (by decide)) rfl (za (pv 0) (za (pv 1) (za (pv 4) (za (@zl _ _ _ _ _ _ _ _ uq (@wv _ _ _ _ _ _ _ _ _ _ p9 (pv 2) (@vv _) (@vc _ _ _ (pv 4))) (@wv _ _ _ _ _ _ _ _ _ _ p9 (pv 2) (@vc _ _ _ (@zl _ _ _ _ _ _ _ _ yp (pv 4) (@zg _ _ _ _))) (@vv _))) (@zb _))))))) (@zi _ _ _ _ _ (zy (i := 6) sc_law_due.nd rfl (Or.inl rfl) (@zw _ _ _ _ _ _ _ yn (lu wu (hr.mono (by decide)) rfl (za (pv 5) (@zb _))) (@zg _ _ _ _) (fun _ _ => rfl))) (@zi _ _ _ _ _ (@yz _ _ _ _ _ _ _ _ (@xj _ _ _ _ (xn (zj on (hr.mono (by decide)) rfl (za (pv 5) (za (pv 6) (@zb _)))))) (@zh _ _ _ (@zm _ _ _ _ (@uc _ _ _))) (@yf _)) (@zh _ _ _ (wn (t8 PySem.F.plainAttrs_list PySem.F.slot_list_append PySem.F.type_list_append up (pv 3) (za (@zw _ _ _ _ _ _ _ z9 (pv 6) (t8 PySem.F.plainAttrs_list PySem.F.slot_list_index PySem.F.type_list_index jd (@zw _ _ _ _ _ _ _ yn (@zw _ _ _ _ _ _ _ z9 (pv 0) (pv 4) (fun _ _ => rfl)) (@zg _ _ _ _) (fun _ _ => rfl)) (za (@zw _ _ _ _ _ _ _ yn (pv 2) (pv 4) (fun _ _ => rfl)) (@zb _))) (fun _ _ => rfl)) (@zb _))))))))) (@zh _ _ _ (@zm _ _ _ _ (pv 3))))), ?_⟩;rw [show zt ["hands", "places", "row", "due", "k", "grid", "pays"] [V.ref b, V.ref t, V.ref c] = [some (V.ref b), some (V.ref t), some (V.ref c), none, none, none, none] from rfl];simp only [zc, zd, ↓reduceIte];refine ⟨by decide, fun l hl => ?_⟩;have S1 : Same H (upd H l (.lst [])) := Same.upd (Same.refl _) hl;have t1 : upd H l (.lst []) l = some (.lst []) := ze;generalize upd H l (.lst []) = H1 at *;have h4 := G.hands;have RO := rg hrow;have hrl := RO.1;refine ⟨_, .inl (.of (S1 _ _ hH.at')), ?_⟩;rw [Za, hH.len];refine ⟨by omega, by omega, ?_⟩;rw [Zw];refine xh (PvDu [some (V.ref b), some (V.ref t), some (V.ref c)] l (fun r => outs.getD (pl r) ⟨#[]⟩) outs ds row H) ⟨S1, [], _, _, _, t1, ⟨rfl, fun k d hk => absurd hk (Yy _)⟩, rfl⟩ ?_ ?_
    . rintro k σ H2 hk ⟨S2, zs, v1, v2, v3, h2, A2, rfl⟩
      rw [show (0 : Int) + (k : Int) = ((k : Nat) : Int) by omega];have ed : ds[k]? = some ds[k] := Zb hk;generalize ds[k] = d at ed;have hc2 := S2 _ _ hc;have hot := ja hrow k;have lo := (rowsP_iff.mp hot).1;rw [Za, ZO hk] at lo;have hkr : k < row.length := by rw [RO.1]; exact hk
      simp only [zc, zd, ↓reduceIte, ZN, ZR];refine ⟨_, hc2, fun H3 p3 S3 h3 => ⟨_, S3 _ _ hc2, fun H4 p4 S4 h4' => ?_⟩⟩;rw [j0 (by rw [Za]; omega)] at h3;rw [show (k : Int) + 1 = ((k + 1 : Nat) : Int) by omega, ma (by rw [Za]; omega)] at h4';refine ⟨_, S4 _ _ h3, _, h4', ?_, fun H5 p5 S5 h5 => ?_⟩
      . rw [Zj, Ye, Za]
        exact Zd (show _ <= 8 by omega) (by decide)
      have S25 := S2.trans (S3.trans (S4.trans S5));have hoth : H5 p5 = some (.tup ((row.eraseIdx k).map V.str)) := by rw [h5, Yd, Zn, YO, List.map_drop]
      have hin : ∀ u ∈ d.words, insP (row.eraseIdx k) k u ∈ zz (ds.map HD.words) := fun u hu => rowsP_iff.mpr (dn (by rw [Ze, ed]; rfl) (by rw [<- w5]; exact rowsP_iff.mp hot) hu)
      refine ⟨b, t, p5, xs, outs, ds, pl, rs, row.eraseIdx k, k, d, rfl, hH.mono S25, G, jy S25 ht, ed, hoth, by omega, by omega, fun u hu => hpl _ (hin u hu), fun H6 g ls S6 hg I6 => ?_⟩;rw [zej G ed fun u hu => (hpl _ (hin u hu)).2] at I6;have Gd6 : Gd K H6 g (ym (fun r => outs.getD (pl r) ⟨#[]⟩) outs ds (k, row.eraseIdx k)) (yu ds (k, row.eraseIdx k)) := l9 G hk hg I6;refine ⟨g, _, _, rfl, Gd6, (vt G (x := (k, row.eraseIdx k)) hk).1, fun H7 v gs S7 Td Gt => ?_, fun H7 cy S7 R => (o6 (no _ (zcm hk hot)) R).elim⟩;obtain ⟨tp, pl', rl, rfl, d1, d2, d3⟩ := Td.ex;refine ⟨tp, rfl, _, .of d1, _, z0 (j := 0) rfl, g, pl', _, _, _, rfl, Gd6.mono S7, d2, by rw [Za, Gt.len], Gt.hon, fun t' ht' => ?_, _, rfl, iteF ?_⟩
      . have h1 := Gt.le t' ht'
        have lg : t' < gs.length := by rw [Gt.len]; exact ht'
        rw [Zk, Ze, Zb lg]
        simpa [fOf, Zk, Zb lg] using h1
      have S27 := S3.trans (S4.trans (S5.trans (S6.trans S7)));have hH7 := hH.mono (S2.trans S27);obtain ⟨x, hx⟩ : ∃ x, xs[k]? = some x := ⟨xs[k]'(by rw [hH.len]; exact hk), by simp⟩;have hA := hH7.hand k x d hx ed;obtain ⟨z, hz⟩ : ∃ z, row[k]? = some z := ⟨row[k], by simp⟩;have hzm := RO.2 k d z ed hz;have hil := Zz.mpr hzm;have lg : d.words.idxOf z < gs.length := by rw [Gt.len, qd ed]; exact hil
      have eV : askV gs d row k = (gs[d.words.idxOf z]).1 := by
        rw [askV, Zk, hz]
        show (fOf gs (d.words.idxOf z)).1 = _
        rw [we (Zb lg)]
      refine ⟨.inl ⟨rfl, _, .of (S27 _ _ h2)⟩, _, .of hH7.at', _, z0 (v := V.ref x.t) (by rw [Ze, hx]; rfl), x.t, rfl, _, .of hA.tup, _, z0 (j := 1) rfl, .inl ⟨rfl, _, .of hA.words⟩, _, .of (S27 _ _ hc2), _, z0 (v := V.str z) (by rw [Ze, hz]; rfl), ?_⟩;refine ⟨x.w, rfl, _, .of hA.words, _, ni hzm, pl', rfl, _, .of d2, _, wa (x := (gs[d.words.idxOf z]).1) (by rw [Ze, Zb lg]; rfl), _, S27 _ _ h2, ?_, Same.upd (S2.trans S27) hl, zs ++ [askV gs d row k], _, _, _, ?_, A2.snoc ed Gt, rfl⟩
      . rw [Za, A2.1]
        exact Zh (show k < 4 by omega) (by decide)
      . rw [ze, eV]
        simp
    . rintro σ H2 ⟨S2, zs, v1, v2, v3, h2, A2, rfl⟩
      simp only [zc, zd, ↓reduceIte, ZN, ZR];exact q H2 l zs S2 h2 A2
end
def zdu : Sp := fun vs H Q _ => ∃ (p o h td b t c : Addr) (hs : List Addr) (outs : List Str) (xs : List HX) (ds : List HD) (pl : List Str -> Nat) (rs rs' : List (List Str)) (row : List Str), vs = [.ref p, .ref td, .ref b, .ref t, .ref c] /\ Tbl H p o h td c hs outs ds (fun r => outs.getD (pl r) ⟨#[]⟩) rs' row /\ HandsL H b xs ds /\ L2.Rd H t (.dT (ya pl rs)) /\ (∀ r ∈ zz (ds.map HD.words), r ∈ rs /\ pl r < outs.length) /\
  (∀ x ∈ dueK ds ds.length, vi (ym (fun r => outs.getD (pl r) ⟨#[]⟩) outs ds x) (yu ds x)) /\ ∀ H', Same H H' -> Q (.bl true) H'
def PvNo (H : Hp) (i : Nat) (ys : List V) (H' : Hp) : Prop := H' = H /\ ys = []
section
variable {P : Program} {w : World} {K : Fg} {mg : Str -> Option Value} {base : Heap} {a : Ad}
theorem l5 (B : Bt mg) (li : FnAtX P w K mg base "asked" 9 ["house", "table", "row"] (fq a)) (v0 : FnAt P w K mg base "_law_whole" 1 ["found"] zct) (jc : FnAt P w K mg base "_law_due" 8 ["hands", "places", "row"] spDue) (D : zf K mg "_law_told" q8 ["house", "table", "hands", "places", "row"]) : FnAt P w K mg base "_law_told" 10 ["house", "table", "hands", "places", "row"] zdu := by
  refine FnAt.of D sc_law_told (fun vs H Q E h => ?_) (fun fa cdv A outer s H vs Q E hr h => ?_)
  . obtain ⟨p, o, h, td, b, t, c, hs, outs, xs, ds, pl, rs, rs', row, rfl, _⟩ := h
    rfl
  . obtain ⟨p, o, h, td, b, t, c, hs, outs, xs, ds, pl, rs, rs', row, rfl, ⟨hH, G, ht, AD, hc, hrow⟩, hb, hpt, hpl, no, q⟩ := h
    refine ⟨_, (@zi _ _ _ _ _ (zy (i := 5) sc_law_told.nd rfl (Or.inl rfl) (lu li (hr.mono (by decide)) rfl (za (pv 0) (za (pv 1) (za (pv 4) (@zb _)))))) (@zi _ _ _ _ _ (@yz _ _ _ _ _ _ _ _ (PW.pt (@pc _ _ _ _ _ _ _ (@xj _ _ _ _ (xn (zn y4 rfl B.isinstance yg (za (pv 5) (za (vy rfl B.list uo) (@zb _)))))) (@tf _ _ _ _ (@yv _ _ _ _ _ _ _ _ i4 (zn zq rfl B.len ye (za (yk ["one"] ["house", "table", "hands", "places", "row", "found"] rfl (@yh _ _ _ _ (pv 5)) (fun _ => (zo (i := 0) (show (["one", "house", "table", "hands", "places", "row", "found"] : List Str).Nodup by decide +kernel) rfl (Or.inl rfl))) (fun _ => (@zgu _ _ _ (@xj _ _ _ _ (xn (zj v0 (hr.mono (by decide)) rfl (za (pv 0) (@zb _))))))) (fun _ => (pv 0)) rfl (by decide +kernel) rfl rfl) (@zb _))) (@zg _ _ _ _) (yq _))))) (@zh _ _ _ (@zm _ _ _ _ (@xp _ _ _ _))) (@yf _)) (@zh _ _ _ (@zm _ _ _ _ (@se _ _ _ _ _ _ _ _ (op_eqL (Nat.lt_of_succ_lt (hu_of hr))) (pv 5) (zj jc (hr.mono (by decide)) rfl (za (pv 2) (za (pv 3) (za (pv 4) (@zb _))))) (yq _)))))), ?_⟩;rw [show zt ["house", "table", "hands", "places", "row", "found"] [V.ref p, V.ref td, V.ref b, V.ref t, V.ref c] = [some (V.ref p), some (V.ref td), some (V.ref b), some (V.ref t), some (V.ref c), none] from rfl];simp only [zc, zd, ↓reduceIte];refine ⟨p, o, h, td, c, hs, outs, ds, _, rs', row, rfl, hH, G, ht, AD, hc, hrow, fun H1 l zs S1 hl A1 _ => ?_, fun H1 x cy S1 hx R => (o6 (no x hx) R).elim⟩;refine ⟨_, .lst hl, true, zeq, iteF ⟨l, rfl, ⟨_, .of hl⟩, fun dd => ?_⟩⟩;refine yo (xs := zs.map V.int) (PvNo H1) ⟨rfl, rfl⟩ ?_ ?_ ?_
    . rintro i ys H2 hi ⟨rfl, rfl⟩
      exact ⟨ZE _, .of hl⟩
    . rintro i y ys H2 hy ⟨rfl, rfl⟩
      obtain ⟨z, hz, rfl⟩ := ip hy;simp only [zc, zd, ↓reduceIte];exact ⟨z, rfl, _, rfl, iteF ⟨rfl, rfl⟩⟩
    . rintro ys H2 ⟨rfl, rfl⟩ l2 hl2
      have S2 : Same H2 (upd H2 l2 (.lst [])) := Same.upd (Same.refl _) hl2;have t2 : upd H2 l2 (.lst []) l2 = some (.lst []) := ze;generalize upd H2 l2 (.lst []) = H3 at *;have S13 := S1.trans S2;refine ⟨_, .inl (.of t2), ite2 (fun h => absurd h (by simp)) fun _ => ?_⟩;refine ⟨b, t, c, xs, outs, ds, pl, rs, row, rfl, hb.mono S13, G, jy S13 hpt, S13 _ _ hc, hrow, hpl, no, fun H4 l4 zs' S4 hl4 A4 => ⟨l, rfl, l4, rfl, _, .of ((S2.trans S4) _ _ hl), _, .of hl4, ?_⟩⟩;rw [decide_eq_true (A1.uniq A4 hrow)];exact q _ (S13.trans S4)
end
def zdc (K : Fg) : Sp := fun vs H Q _ => ∃ (a : Addr) (ns : List Int), vs = [.ref a] /\ SqL K H a (ns.map V.int) /\ ns.length <= 63 /\ ∀ H', Q (.bl true) H'
theorem zfe {K : Fg} {f : Addr} {fd : FuncData} (F : Fun K "law" "law" jq f fd) (s : Shared) (u : Value) : BindsTo s fd ⟨[u], []⟩ [("script", u)] := by
  obtain ⟨oc, od, kV, doc, pm, an, cdv, ct, osl, rfl, lk, hcd⟩ := F.ex;exact .of_eq rfl
def tops38 : List Int := [5, 3, 2, 2]
theorem dr : Tops tops38 := ⟨rfl, by decide⟩
theorem zdf : FewT tops38 := by unfold FewT; decide
theorem Tbl.mono {H H' : Hp} {p o h t c : Addr} {hs : List Addr} {outs : List Str} {ds : List HD} {f : List Str -> Str} {rs : List (List Str)} {row : List Str} (S : Same H H') (q : Tbl H p o h t c hs outs ds f rs row) : Tbl H' p o h t c hs outs ds f rs row := ⟨q.1.mono S, q.2.1, S _ _ q.2.2.1, q.2.2.2.1, S _ _ q.2.2.2.2.1, q.2.2.2.2.2⟩
def PvLp (st : L2.St) (H : Hp) (i : Nat) (σ : L2.St) (H' : Hp) : Prop := Same H H' /\ ∃ v : Option V, σ = st ++ [v]
theorem HHouse.tups {H H' : Hp} {p o h : Addr} {hs : List Addr} {outs : List Str} {ds : List HD} (S : ∀ c xs, H c = some (.tup xs) -> H' c = some (.tup xs)) (q : HHouse H p o h hs outs ds) : HHouse H' p o h hs outs ds :=
  ⟨S _ _ q.tup, S _ _ q.outs, S _ _ q.hands, q.hand.1, fun i t d e1 e2 => by
    obtain ⟨w, g, gs, q⟩ := q.hand.2 i t d e1 e2
    exact ⟨w, g, gs, S _ _ q.tup, S _ _ q.words, S _ _ q.grid, q.len, fun i r ns e1 e2 => S _ _ (q.row i r ns e1 e2)⟩⟩
theorem HandsL.lsts {H H' : Hp} {b : Addr} {xs : List HX} {ds : List HD} (S : ∀ c xs, H c = some (.tup xs) -> H' c = some (.tup xs)) (S2 : ∀ c xs, H c = some (.lst xs) -> H' c = some (.lst xs)) (g : HandsL H b xs ds) : HandsL H' b xs ds :=
  ⟨S2 _ _ g.at', g.len, fun i x d e1 e2 => let q := g.hand i x d e1 e2; ⟨S _ _ q.tup, S2 _ _ q.words, S2 _ _ q.grid, q.len, fun i r ns e1 e2 => S2 _ _ (q.row i r ns e1 e2)⟩⟩
section
variable {P : Program} {w : World} {K : Fg} {mg : Str -> Option Value} {base : Heap} {a : Ad}
theorem law_fn (B : Bt mg) (C : Ct K mg a) (m3 : FnAt P w K mg base "_law_parts" 3 ["script", "tops"] (zb9 K)) (f_house_of : FnAtX P w K mg base "house_of" 7 ["outcomes", "hands"] zas) (o5 : FnAt P w K mg base "_law_places" 3 ["script", "outcomes", "hands"] (dv K)) (mq : FnAt P w K mg base "_law_table" 1 ["outcomes", "places"] aq) (jj : FnAt P w K mg base "verdict" 9 ["house", "table"] (du K)) (qm : FnAt P w K mg base "_law_refused" 10 ["house", "table", "row"] zbz) (l5 : FnAt P w K mg base "_law_told" 10 ["house", "table", "hands", "places", "row"] zdu) {f : Addr} {fd : FuncData} (F : Fun K "law" "law" jq f fd) : FnOk P w K mg base CX0 11 f fd ["script"] (zdc K) := by
  refine F.ok sc_law (fun vs H Q E h => by obtain ⟨b, ns, rfl, _⟩ := h; rfl) (fun cdv A outer s H vs Q E hr h => ?_);obtain ⟨a, ns, rfl, hS, hlen, q⟩ := h;refine ⟨_, (@zi _ _ _ _ _ (gu (zj m3 (hr.mono (by decide)) rfl (@za _ _ _ _ _ (pv 0) (@za _ _ _ _ _ (@y8 _ _ _ _ (@za _ _ _ _ _ (@zg _ _ _ _) (@za _ _ _ _ _ (@zg _ _ _ _) (@za _ _ _ _ _ (@zg _ _ _ _) (@za _ _ _ _ _ (@zg _ _ _ _) (@zb _) (z8 nofun)) (z8 nofun)) (z8 nofun)) (z8 nofun))) (@zb _) (z8 nofun)) (z8 nofun))) (rn rfl (y2 (zo (i := 1) sc_law.nd rfl (Or.inl rfl)) (y2 (zo (i := 2) sc_law.nd rfl (Or.inl rfl)) (@um _))))) (@zi _ _ _ _ _ (zy (i := 3) sc_law.nd rfl (Or.inl rfl) (lu f_house_of (hr.mono (by decide)) rfl (za (pv 1) (za (pv 2) (@zb _))))) (@zi _ _ _ _ _ (zy (i := 4) sc_law.nd rfl (Or.inl rfl) (zj o5 (hr.mono (by decide)) rfl (za (pv 0) (za (pv 1) (za (pv 2) (@zb _)))))) (@zi _ _ _ _ _ (zy (i := 5) sc_law.nd rfl (Or.inl rfl) (zj mq (hr.mono (by decide)) rfl (za (pv 1) (za (pv 4) (@zb _))))) (@zi _ _ _ _ _ (@yz _ _ _ _ _ _ _ _ (@yv _ _ _ _ _ _ _ _ pq (@zw _ _ _ _ _ _ _ yn (zj jj (hr.mono (by decide)) rfl (za (pv 3) (za (pv 5) (@zb _)))) (@zg _ _ _ _) (fun _ _ => rfl)) (@qc _ _ _ _) (yq _)) (@zi _ _ _ _ _ (yw PassesOwn.never rfl (@zag _ _ _ _ (pv 4)) (zo (i := 6) sc_law.nd rfl (Or.inl rfl)) (@zh _ _ _ (@yz _ _ _ _ _ _ _ _ (@xj _ _ _ _ (xn (zj qm (hr.mono (by decide)) rfl (za (pv 3) (za (pv 5) (za (pv 6) (@zb _))))))) (@zh _ _ _ (@zm _ _ _ _ (@xp _ _ _ _))) (@yf _)))) (@zh _ _ _ (@zm _ _ _ _ (@xp _ _ _ _)))) (@yf _)) (@zi _ _ _ _ _ (yw PassesOwn.never rfl (@zag _ _ _ _ (pv 4)) (zo (i := 6) sc_law.nd rfl (Or.inl rfl)) (@zh _ _ _ (@yz _ _ _ _ _ _ _ _ (@xj _ _ _ _ (xn (zj l5 (hr.mono (by decide)) rfl (@za _ _ _ _ _ (pv 3) (@za _ _ _ _ _ (pv 5) (@za _ _ _ _ _ (pv 2) (@za _ _ _ _ _ (pv 4) (@za _ _ _ _ _ (pv 6) (@zb _) (z8 nofun)) (z8 nofun)) (z8 nofun)) (z8 nofun)) (z8 nofun))))) (@zh _ _ _ (@zm _ _ _ _ (@xp _ _ _ _))) (@yf _)))) (@zh _ _ _ (@zm _ _ _ _ (@xp _ _ _ _))))))))), ?_⟩;rw [show zt ["script", "outcomes", "hands", "house", "places", "table", "row"] [V.ref a] = [some (V.ref a), none, none, none, none, none, none] from rfl];refine hide4 fun T hT => ?_
  simp only [zc, zd, ↓reduceIte];refine ⟨by decide, fun tp htp => ?_⟩;have S0 : Same H (upd H tp (.lst [V.int 5, V.int 3, V.int 2, V.int 2])) := Same.upd (Same.refl _) htp;have hTp : upd H tp (.lst [V.int 5, V.int 3, V.int 2, V.int 2]) tp = some (.lst (tops38.map V.int)) := ze;generalize upd H tp (.lst [V.int 5, V.int 3, V.int 2, V.int 2]) = H0 at *;refine ⟨a, tp, ns, tops38, rfl, S0.seq hS, .of hTp, dr, fun H1 H2 H3 o b p xs S1 ho ho1 N hp e3 => ?_⟩;subst e3;have S3 : Same H2 (upd H2 p (.tup [V.ref o, V.ref b])) := Same.upd (Same.refl _) hp;have hp3 : upd H2 p (.tup [V.ref o, V.ref b]) p = some (.tup [V.ref o, V.ref b]) := ze;generalize upd H2 p (.tup [V.ref o, V.ref b]) = H3 at *;simp only [zc, zd, ↓reduceIte];refine ⟨_, .of hp3, rfl, ?_⟩;simp only [zc, zd, ↓reduceIte];have G := goodA ns dr zdf;have oF : H3 o = some (.lst ((rk ns).map V.str)) := (N.same.trans S3) _ _ ho1;have bF : HandsL H3 b xs (x9 ns tops38 (wj ns)) := N.lists.mono S3;have S03 : Same H H3 := S0.trans (S1.trans (N.same.trans S3));generalize x9 ns tops38 (wj ns) = ds at *;generalize rk ns = outs at *;refine ⟨o, b, outs, xs, ds, rfl, oF, bF, G, fun H4 p ko kh hs S4 hK => ?_⟩;simp only [zc, zd, ↓reduceIte];have S04 := S03.trans S4;have b4 := bF.mono S4;refine ⟨a, o, b, ns, outs, xs, ds, rfl, S04.seq hS, S4 _ _ oF, b4, G, fun H5 t pl S5 ht5 hpl => ?_⟩;simp only [zc, zd, ↓reduceIte]
  have hnd : (zz (ds.map HD.words)).Nodup := j6 fun ws hws => by
    obtain ⟨d, hd, rfl⟩ := Zp.mp hws;exact G.wordsD d hd
  have few : (zz (ds.map HD.words)).length <= 4096 := by
    have := sd (wss := ds.map HD.words) (by rw [Za]; exact G.hands.2) (fun ws hws => by
      obtain ⟨d, hd, rfl⟩ := Zp.mp hws
      exact (G.words1 d hd).2) (ds.map HD.words).length (Zm _)
    rw [Zt] at this;exact this
  have hpos : 0 < (zz (ds.map HD.words)).length := by
    rw [e8]
    exact jh fun z hz => by
      obtain ⟨ws, hws, rfl⟩ := Zp.mp hz;obtain ⟨d, hd, rfl⟩ := Zp.mp hws;exact (G.words1 d hd).1
  refine ⟨o, t, outs, pl, _, rfl, S5 _ _ (S4 _ _ oF), ht5, hnd, few, hpl, fun H6 td S6 h6 => ?_⟩;have hK6 := hK.mono (S5.trans S6);have b6 := b4.mono (S5.trans S6);have ht6 := S6 _ _ ht5
  have AD : sk (fun r => outs.getD (pl r) ⟨#[]⟩) (zz (ds.map HD.words)).reverse outs ds := fun k d ot hd hot => by
    have kl := (Zc.mp hd).1;have lo := (rowsP_iff.mp hot).1;rw [Za, ZO kl] at lo;have := G.hands.2;rw [w5] at hot;refine ⟨by omega, by omega, fun u hu => ?_⟩;have i3 := rowsP_iff.mpr (dn (k := k) (ws := d.words) (wss := ds.map HD.words) (by rw [Ze, hd]; rfl) (rowsP_iff.mp hot) hu);refine ⟨List.mem_reverse.mpr i3, ?_⟩;have := hpl _ i3
    show outs.getD _ _ ∈ outs
    rw [Zk, Zb this];exact Zl this
  have frz : ∀ (H7 : Hp) (ob : Obj) (as : List Addr), Same H6 H7 -> v7 H7 (ya pl (zz (ds.map HD.words))) as -> as.length = (zz (ds.map HD.words)).length /\ HandsL (upd H7 t (.frz ob (.dT (ya pl (zz (ds.map HD.words)))))) b xs ds /\ L2.Rd (upd H7 t (.frz ob (.dT (ya pl (zz (ds.map HD.words)))))) t (.dT (ya pl (zz (ds.map HD.words)))) /\ ∀ (i : Nat) (c : Addr), as[i]? = some c -> ∃ row, Tbl (upd H7 t (.frz ob (.dT (ya pl (zz (ds.map HD.words)))))) p ko kh td c hs outs ds (fun r => outs.getD (pl r) ⟨#[]⟩) (zz (ds.map HD.words)).reverse row := by
    intro H7 ob as S7 hk;have T7 := mm hk;have ht7 := S7 _ _ ht6
    have ktup : ∀ c us, H7 c = some (.tup us) -> upd H7 t (.frz ob (.dT (ya pl (zz (ds.map HD.words))))) c = some (.tup us) := fun c us h => by
      rw [zr (fun z => by rw [z, ht7] at h; cases h)];exact h
    have klst : ∀ c us, H7 c = some (.lst us) -> upd H7 t (.frz ob (.dT (ya pl (zz (ds.map HD.words))))) c = some (.lst us) := fun c us h => by
      rw [zr (fun z => by rw [z, ht7] at h; cases h)];exact h
    have htd : td ≠ t := fun z => by
      have h7 := S7 _ _ h6;rw [z, ht7] at h7
      injection h7 with h7
      injection h7 with h7
      obtain ⟨r, rest, er⟩ : ∃ r rest, zz (ds.map HD.words) = r :: rest := by
        cases e : zz (ds.map HD.words) with
        | nil => rw [e] at hpos; cases hpos
        | cons r rest => exact ⟨r, rest, rfl⟩
      have hm : (yr r, V.int (pl r)) ∈ ya pl (zz (ds.map HD.words)) := by rw [er, ya]; exact ZA
      rw [h7] at hm;obtain ⟨r', _, e'⟩ := Zp.mp hm
      injection e' with _ e'
      cases e'
    refine ⟨T7.len, (b6.mono S7).lsts ktup klst, .inr ⟨ob, ze⟩, fun i c hc => ?_⟩;have hi : i < (zz (ds.map HD.words)).length := by rw [<- T7.len]; exact (Zc.mp hc).1
    refine ⟨(zz (ds.map HD.words))[i], (hK6.mono S7).tups ktup, G, ?_, AD, ktup _ _ (T7.at' i c _ hc (Zb hi)), Zl hi⟩;rw [zr htd];exact S7 _ _ h6
  rw [hT];clear hT T;simp only [zc, zd, ↓reduceIte];refine ⟨p, ko, kh, td, hs, outs, ds, _, _, rfl, hK6, G, h6, AD, fun H7 tp l as S7 htp hl PA => ?_, fun H7 tp c l i x cy S7 ex no htp hc hl R => ?_⟩
  . have noA : ∀ x ∈ dueK ds ds.length, vi (ym (fun r => outs.getD (pl r) ⟨#[]⟩) outs ds x) (yu ds x) := fun x hx => by
      obtain ⟨j, hj⟩ := Yi hx;have lj := (Zc.mp hj).1;obtain ⟨c, gs, h1, h2, h3⟩ := PA.at' j (as[j]'(by rw [PA.len]; exact lj)) x (Zb _) hj;exact h3.no
    refine ⟨tp, rfl, _, .of htp, _, z0 (j := 0) rfl, rfl, ite2 (fun h => absurd h (by decide)) fun _ => ⟨_, S7 _ _ ht6, fun ob as hk => ?_⟩⟩;obtain ⟨la, bz, rz, tz⟩ := frz H7 ob as S7 hk;have fz : upd H7 t (.frz ob (.dT (ya pl (zz (ds.map HD.words))))) t = some (.frz ob (.dT (ya pl (zz (ds.map HD.words))))) := ze;generalize upd H7 t (.frz ob (.dT (ya pl (zz (ds.map HD.words))))) = H8 at *;refine d5 (PvLp [some (V.ref a), some (V.ref o), some (V.ref b), some (V.ref p), some (V.ref t), some (V.ref td)] H8) ⟨Same.refl _, _, rfl⟩ ?_ ?_ ?_
    . rintro i σ H9 hi ⟨S9, v, rfl⟩
      exact S9 _ _ fz
    . rintro i c σ H9 hc ⟨S9, v, rfl⟩
      obtain ⟨row, hT⟩ := tz i c hc;simp only [zc, zd, ↓reduceIte, ZN, ZR];exact ⟨p, ko, kh, td, b, t, c, hs, outs, xs, ds, pl, _, _, row, rfl, hT.mono S9, bz.mono S9, jy S9 rz, fun r hr => ⟨hr, hpl r hr⟩, noA, fun H10 S10 => ⟨_, rfl, iteF ⟨S9.trans S10, _, rfl⟩⟩⟩
    . rintro σ H9 ⟨S9, v, rfl⟩
      simp only [zc, zd, ↓reduceIte, ZN, ZR];exact q _
  . have hxm := Zi ex
    refine ⟨tp, rfl, _, .of htp, _, z0 (j := 0) rfl, rfl, ite2 (fun _ => ⟨_, S7 _ _ ht6, fun ob as hk => ?_⟩) fun h => absurd (decide_eq_true rfl) h⟩;obtain ⟨la, bz, rz, tz⟩ := frz H7 ob as S7 hk;have fz : upd H7 t (.frz ob (.dT (ya pl (zz (ds.map HD.words))))) t = some (.frz ob (.dT (ya pl (zz (ds.map HD.words))))) := ze;generalize upd H7 t (.frz ob (.dT (ya pl (zz (ds.map HD.words))))) = H8 at *;refine d5 (PvLp [some (V.ref a), some (V.ref o), some (V.ref b), some (V.ref p), some (V.ref t), some (V.ref td)] H8) ⟨Same.refl _, _, rfl⟩ ?_ ?_ ?_
    . rintro i σ H9 hi ⟨S9, v, rfl⟩
      exact S9 _ _ fz
    . rintro i c σ H9 hc ⟨S9, v, rfl⟩
      obtain ⟨row, hT⟩ := tz i c hc;simp only [zc, zd, ↓reduceIte, ZN, ZR];exact ⟨p, ko, kh, td, c, hs, outs, ds, _, _, row, x, cy, rfl, hT.mono S9, hxm, R, fun H10 S10 => ⟨_, rfl, iteF ⟨S9.trans S10, _, rfl⟩⟩⟩
    . rintro σ H9 ⟨S9, v, rfl⟩
      simp only [zc, zd, ↓reduceIte, ZN, ZR];exact q _
theorem law_ok (B : Bt mg) (C : Ct K mg a) (d_is_whole : zf K mg "is_whole" pz ["thing"]) (d_is_bounded : zf K mg "is_bounded" u1 ["thing"]) (d_is_grid_row : zf K mg "is_grid_row" uf ["thing", "width"]) (d_turn : zf K mg "turn" i0 ["grid", "s", "t"]) (d_gain : zf K mg "gain" gk ["grid", "pays", "t", "s"]) (d_first_gain : zf K mg "first_gain" uv ["grid", "pays"]) (d_is_name : zf K mg "is_name" mh ["thing"]) (d_are_names : zf K mg "are_names" ra ["thing", "most"]) (d_are_worths : zf K mg "are_worths" u0 ["thing", "height", "width"]) (d_is_hand : zf K mg "is_hand" me ["thing", "width"]) (d_name_of : zf K mg "name_of" ny ["hand"]) (d_names_of : zf K mg "names_of" pj ["hands"]) (d_words_of_hand : zf K mg "words_of_hand" wc ["hand"]) (d_worths_of_hand : zf K mg "worths_of_hand" xx ["hand"]) (d_count_of_rows : zf K mg "count_of_rows" vf ["hands"]) (d_makes_house : zf K mg "makes_house" ug ["outcomes", "hands"]) (d_kept_hand : zf K mg "kept_hand" sy ["hand"]) (d_house_of : zf K mg "house_of" pp ["outcomes", "hands"]) (d_outcomes_of : zf K mg "outcomes_of" ui ["house"]) (d_hands_of : zf K mg "hands_of" qr ["house"]) (d_with_each : zf K mg "with_each" sw ["rows", "words"]) (d_rows_over : zf K mg "rows_over" rj ["hands"]) (d_without : zf K mg "without" nt ["things", "k"]) (d_others_of : zf K mg "others_of" sv ["house", "k"]) (d_row_with : zf K mg "row_with" qv ["others", "k", "word"]) (d_total_of : zf K mg "total_of" pw ["walk"]) (d_words_of : zf K mg "words_of" pi ["walk"]) (d_walks_of_one_turn : zf K mg "walks_of_one_turn" x6 ["grid", "s"]) (d_least_to : zf K mg "least_to" uy ["grid", "walks", "t"]) (d_lengthened : zf K mg "lengthened" vj ["grid", "walks"]) (d_after_a_turn : zf K mg "after_a_turn" vx ["grid", "totals", "t"]) (d_has_honest : zf K mg "has_honest" ux ["grid"]) (d_closed_below_zero : zf K mg "closed_below_zero" x0 ["rows"]) (d_ring : zf K mg "ring" gf ["grid"]) (d_refuse_ring : zf K mg "refuse_ring" ue ["grid"]) (d_lesser : zf K mg "lesser" l6 ["walk", "longer"]) (d_least_roads : zf K mg "least_roads" uj ["grid", "walks"]) (d_greatest : zf K mg "greatest" qt ["grid"]) (d_dealt_places : zf K mg "dealt_places" vz ["house", "table", "k", "others"]) (d_worths_at : zf K mg "worths_at" rh ["worths", "places"]) (d_grid_of : zf K mg "grid_of" nq ["house", "table", "k", "others"]) (d_grids_of : zf K mg "grids_of" qy ["house", "table"]) (d_paper : zf K mg "paper" jp ["k", "others", "grid"]) (d_verdict : zf K mg "verdict" nk ["house", "table"]) (d_asked_of : zf K mg "asked_of" qz ["house", "table", "k", "row"]) (d_asked : zf K mg "asked" jz ["house", "table", "row"]) (d_law_cell_at : zf K mg "_law_cell_at" uh ["script", "k"]) (d_law_pool : zf K mg "_law_pool" yd ["cell", "many"]) (d_law_drawn : zf K mg "_law_drawn" re ["script", "k"]) (d_law_worth : zf K mg "_law_worth" so ["cell"]) (d_law_parts : zf K mg "_law_parts" rf ["script", "tops"]) (d_law_rows : zf K mg "_law_rows" qw ["hands"]) (d_law_score : zf K mg "_law_score" su ["hands", "row", "weights", "place"]) (d_law_places : zf K mg "_law_places" u8 ["script", "outcomes", "hands"]) (d_law_table : zf K mg "_law_table" sr ["outcomes", "places"]) (d_law_grid : zf K mg "_law_grid" p0 ["hands", "places", "k", "others"]) (d_law_turn : zf K mg "_law_turn" qx ["grid", "s", "t"]) (d_law_whole : zf K mg "_law_whole" sm ["found"]) (d_law_honest : zf K mg "_law_honest" u5 ["grid", "pays"]) (d_law_refused : zf K mg "_law_refused" ud ["house", "table", "row"]) (d_law_due : zf K mg "_law_due" nv ["hands", "places", "row"]) (d_law_told : zf K mg "_law_told" q8 ["house", "table", "hands", "places", "row"]) (base : Heap) {f : Addr} {fd : FuncData} (F : Fun K "law" "law" jq f fd) : FnOk P w K mg base CX0 11 f fd ["script"] (zdc K) := by
  have c1 := y0 (P := P) (w := w) (base := base) B d_law_cell_at;have c2 := u9 (P := P) (w := w) (base := base) B d_law_pool;have c3 := mz (P := P) (w := w) (base := base) d_law_worth;have c4 := wg B c1 d_law_drawn;have c5 := m3 B c1 c2 c3 c4 d_law_parts;have n1 := rp (P := P) (w := w) (base := base) B d_is_name;have n2 := w9 B n1 d_are_names;have n3 := qo B (o4 B (kd (P := P) (w := w) (base := base) B d_is_whole) d_is_bounded) d_is_grid_row;have n4 := oj B n3 d_are_worths;have n5 := jk B n1 n2 n4 d_is_hand;have n6 := qg (P := P) (w := w) (base := base) d_name_of;have n7 := yt (P := P) (w := w) (base := base) d_words_of_hand;have n8 := xy (P := P) (w := w) (base := base) d_worths_of_hand;have n9 := ql B n2 n5 (kq n6 d_names_of) (u7 B n7 d_count_of_rows) d_makes_house;have n10 := zdd B C n9 (zbg B n6 n7 n8 d_kept_hand) d_house_of;have m1 := zda (P := P) (w := w) (base := base) d_hands_of;have m0 := d6 (P := P) (w := w) (base := base) d_outcomes_of;have mw := gh (P := P) (w := w) (base := base) d_words_of_hand;have mv := iw (P := P) (w := w) (base := base) d_worths_of_hand;have mo := mx B (mt (P := P) (w := w) (base := base) B d_with_each) mw d_rows_over;have t1 := qf B (sh B (ll B d_row_with) mw m1 m0 d_dealt_places) (mr d_worths_at) mv m1 d_grid_of;have c7 := vn (P := P) (w := w) (base := base) d_turn;have c8 := xb (P := P) (w := w) (base := base) d_total_of;have c9 := tj (P := P) (w := w) (base := base) d_words_of;have c14 := jo B (og B (si B c7 d_after_a_turn) (ox B (c0 c7 d_gain) d_first_gain) d_has_honest) (ve B c7 d_walks_of_one_turn) (vm B (tw B c7 c8 d_least_to) d_lengthened) (vd B c8 c9 d_closed_below_zero) d_ring;have c18 := qk B (ai B (zdl B c7 c8 d_least_to) d_lengthened) (ij c8 d_lesser) d_least_roads;have c19 := wu B C (x8 B C c14 d_refuse_ring) c18 c8 c9 d_greatest;have oo := my B mo m1 (ul (P := P) (w := w) (base := base) B d_without) d_others_of;have v1 := uz B m1 t1 oo d_grids_of;have lw := v0 (P := P) (w := w) (base := base) B d_law_whole;have fw := ul (P := P) (w := w) (base := base) B d_without;have ask := li B C v1 (x8 B C c14 d_refuse_ring) (kr B C c19 t1 fw mw m1 d_asked_of) m1 d_asked;exact law_fn B C c5 n10 (o5 B c1 c4 (kc (P := P) (w := w) (base := base) d_law_rows) (mj B d_law_score) d_law_places) (mq B d_law_table) (jj B v1 c14 (ft B c19 d_paper) d_verdict) (qm B C ask d_law_refused) (l5 B ask lw (jc B (ki B d_law_grid) c19 (on B lw (ka (P := P) (w := w) (base := base) d_law_turn) d_law_honest) d_law_due) d_law_told) F
end
end Mine
namespace Tp
open PySem PySem.W PySem.Calls PyProof.Rows
noncomputable section
abbrev pr : Program := PySem.Challenge.pw_trueword_k40_asked_of_the_hands
def en (P : Params) (x : Str) (t : Nat) (v : Value) : DictEntry := ⟨PyData.keyHash P x, .str x t, v⟩
abbrev fn (i : Nat) (name qual : Str) (dV kV doc pm : Value) (an : Option Addr) (cdv ct : Value) : FuncData := fnOf name qual (L2.ur (Mine.top i)) (L2.yx (Mine.top i)) (L2.zk (Mine.top i)) dV kV doc pm an cdv ct
abbrev fx (i : Nat) (name qual : Str) (g : Addr) (dV kV doc pm : Value) (an : Option Addr) (cdv ct : Value) (b : Addr) : FuncData := ⟨name, qual, L2.ur (Mine.top i), .stmts (L2.yx (Mine.top i)), L2.zk (Mine.top i), g, [], dV, kV, doc, pm, an, cdv, ct, b⟩
def oE : Obj := ⟨.type "tuple", none, .seq #[] 0, #[]⟩
def oF : Obj := ⟨.none, none, .fields #[], #[]⟩
def tl : Nat -> List Str -> List Value
  | _, [] => []
  | t, x :: r => .str x t :: tl (t + 1) r
def ts (t : Nat) (xs : List Str) : Obj := ⟨.type "tuple", none, .seq (tl t xs).toArray 0, #[]⟩
def fo (i : Nat) (n m : Str) (t c : Nat) : Obj := ⟨.type "function", none, .func (fn i n n .none .none .none (.str m t) none (.ref c) .none), #[]⟩
def xo (i : Nat) (n : Str) : Obj := ⟨.none, none, .func (fx i n n 0 .none .none .none .none none .none .none 0), #[]⟩
def co (n : Str) (t l c f a : Nat) (b : Bool) (e : Nat) (v1 v2 v3 v4 : Value) (k : Nat) : Obj := ⟨.type "code", none, .fields #[.str n t, .str n (t + 1), .str "/claim/cut.py" (t + 2), .int l 0, .int c 0, .int 0 0, .int 0 0, .int f 0, .ref a, .bool b, .int 181 0, .ref e, v1, v2, v3, v4, .int k 0, .int l 0, .str "/claim/cut.py" (k + 1)], #[]⟩
def ia (t : BT) : Nat -> List Obj -> BT
  | _, [] => t
  | n, o :: r => ia (t.ins n o) (n + 1) r
def lf (P : Params) : Life := (boot_heap P).life
def env : Env := { scope := pr.main.scope, locals := mainNs, globals := mainNs, cells := [], code := (.ref 13), frame := some 14 }
def cd : Code := .body (behindTheImports pr) env
def qp : Pos := ⟨0, 0, 0, 0⟩
def o13 : Obj := (co "<module>" 182 1 0 0 11 false 12 .none .none .none .none 185)
def ha (P : Params) : Heap := ⟨⟨[boot_o_0 P, boot_o_1 P, boot_o_2 P, boot_o_3 P, boot_o_4 P, boot_o_5 P, boot_o_6 P, boot_o_7 P, boot_o_8 P, boot_o_9 P, boot_o_10 P, oE, oF, o13, ⟨(.type "frame"), none, .plain, #[(some (.ref 13)), (some (.ref 3)), (some (.ref 3)), none, (some (.str "__main__" 164)), none, (some (.ref 0))]⟩]⟩, lf P⟩
def t0 (P : Params) : BT := (.node (boot_o_0 P) (.node (boot_o_1 P) (.node (boot_o_3 P) (.node (boot_o_7 P) .nil .nil) (.node (oE) .nil .nil)) (.node (boot_o_5 P) (.node (boot_o_9 P) .nil .nil) (.node (o13) .nil .nil))) (.node (boot_o_2 P) (.node (boot_o_4 P) (.node (boot_o_8 P) .nil .nil) (.node (oF) .nil .nil)) (.node (boot_o_6 P) (.node (boot_o_10 P) .nil .nil) (.node (⟨(.type "frame"), none, .plain, #[(some (.ref 13)), (some (.ref 3)), (some (.ref 3)), none, (some (.str "__main__" 164)), none, (some (.ref 0))]⟩) .nil .nil))))
def o3 (P : Params) : Obj := ⟨(.type "dict"), none, (.dict #[en P "__name__" 165 (.str "trueword.errors" 187), en P "__doc__" 166 .none, en P "__package__" 167 .none, en P "__loader__" 168 (.builtin "__main__.__loader__#opaque"), en P "__spec__" 169 .none, en P "__annotations__" 170 (.ref 6), en P "__builtins__" 171 (.ref 4), en P "__file__" 173 (.str "/claim/cut.py" 172), en P "__cached__" 174 .none, en P "TrueError" 206 (.ref 24), en P "NoPays" 222 (.ref 37), en P "NoHouse" 238 (.ref 49), en P "NoMenu" 254 (.ref 61), en P "NoWeight" 270 (.ref 73), en P "NoShare" 286 (.ref 85), en P "NoRule" 302 (.ref 97)] 16), #[]⟩
def o17 (P : Params) : Obj := ⟨(.type "dict"), none, (.dict #[en P "__module__" 196 (.str "trueword.errors" 187), en P "__qualname__" 198 (.str "TrueError" 197), en P "__firstlineno__" 200 (.int (2) 199), en P "__static_attributes__" 201 (.ref 22)] 4), #[]⟩
def o20 : Obj := (co "TrueError" 191 2 0 0 18 false 19 .none .none .none .none 194)
def o23 (P : Params) : Obj := ⟨(.type "dict"), none, (.dict #[en P "__module__" 196 (.str "trueword.errors" 187), en P "__firstlineno__" 200 (.int (2) 199), en P "__static_attributes__" 201 (.ref 22), en P "__weakref__" 203 (.ref 25), en P "__doc__" 204 .none] 3), #[]⟩
def o24 : Obj := ⟨(.type "type"), none, (.cls ⟨"TrueError", [(.type "ValueError")], [(.ref 24), (.type "ValueError"), (.type "Exception"), (.type "BaseException"), (.type "object")], 23, "TrueError", true, [], [(.ref 37), (.ref 49), (.ref 61), (.ref 73), (.ref 85), (.ref 97)], false, none, false⟩), #[(some (.ref 15)), none, (some (.str "TrueError" 189)), (some (.str "TrueError" 197)), (some (.builtin "ValueError.__new__")), (some (.bool true))]⟩
def o30 (P : Params) : Obj := ⟨(.type "dict"), none, (.dict #[en P "__module__" 214 (.str "trueword.errors" 187), en P "__qualname__" 216 (.str "NoPays" 215), en P "__firstlineno__" 218 (.int (4) 217), en P "__static_attributes__" 219 (.ref 35)] 4), #[]⟩
def o33 : Obj := (co "NoPays" 209 4 0 0 31 false 32 .none .none .none .none 212)
def o36 (P : Params) : Obj := ⟨(.type "dict"), none, (.dict #[en P "__module__" 214 (.str "trueword.errors" 187), en P "__firstlineno__" 218 (.int (4) 217), en P "__static_attributes__" 219 (.ref 35), en P "__doc__" 220 .none] 2), #[]⟩
def o37 : Obj := ⟨(.type "type"), none, (.cls ⟨"NoPays", [(.ref 24)], [(.ref 37), (.ref 24), (.type "ValueError"), (.type "Exception"), (.type "BaseException"), (.type "object")], 36, "NoPays", true, [], [], false, none, false⟩), #[(some (.ref 28)), none, (some (.str "NoPays" 207)), (some (.str "NoPays" 215)), (some (.builtin "ValueError.__new__")), (some (.bool true))]⟩
def o42 (P : Params) : Obj := ⟨(.type "dict"), none, (.dict #[en P "__module__" 230 (.str "trueword.errors" 187), en P "__qualname__" 232 (.str "NoHouse" 231), en P "__firstlineno__" 234 (.int (6) 233), en P "__static_attributes__" 235 (.ref 47)] 4), #[]⟩
def o45 : Obj := (co "NoHouse" 225 6 0 0 43 false 44 .none .none .none .none 228)
def o48 (P : Params) : Obj := ⟨(.type "dict"), none, (.dict #[en P "__module__" 230 (.str "trueword.errors" 187), en P "__firstlineno__" 234 (.int (6) 233), en P "__static_attributes__" 235 (.ref 47), en P "__doc__" 236 .none] 2), #[]⟩
def o49 : Obj := ⟨(.type "type"), none, (.cls ⟨"NoHouse", [(.ref 24)], [(.ref 49), (.ref 24), (.type "ValueError"), (.type "Exception"), (.type "BaseException"), (.type "object")], 48, "NoHouse", true, [], [], false, none, false⟩), #[(some (.ref 40)), none, (some (.str "NoHouse" 223)), (some (.str "NoHouse" 231)), (some (.builtin "ValueError.__new__")), (some (.bool true))]⟩
def o54 (P : Params) : Obj := ⟨(.type "dict"), none, (.dict #[en P "__module__" 246 (.str "trueword.errors" 187), en P "__qualname__" 248 (.str "NoMenu" 247), en P "__firstlineno__" 250 (.int (8) 249), en P "__static_attributes__" 251 (.ref 59)] 4), #[]⟩
def o57 : Obj := (co "NoMenu" 241 8 0 0 55 false 56 .none .none .none .none 244)
def o60 (P : Params) : Obj := ⟨(.type "dict"), none, (.dict #[en P "__module__" 246 (.str "trueword.errors" 187), en P "__firstlineno__" 250 (.int (8) 249), en P "__static_attributes__" 251 (.ref 59), en P "__doc__" 252 .none] 2), #[]⟩
def o61 : Obj := ⟨(.type "type"), none, (.cls ⟨"NoMenu", [(.ref 24)], [(.ref 61), (.ref 24), (.type "ValueError"), (.type "Exception"), (.type "BaseException"), (.type "object")], 60, "NoMenu", true, [], [], false, none, false⟩), #[(some (.ref 52)), none, (some (.str "NoMenu" 239)), (some (.str "NoMenu" 247)), (some (.builtin "ValueError.__new__")), (some (.bool true))]⟩
def o66 (P : Params) : Obj := ⟨(.type "dict"), none, (.dict #[en P "__module__" 262 (.str "trueword.errors" 187), en P "__qualname__" 264 (.str "NoWeight" 263), en P "__firstlineno__" 266 (.int (10) 265), en P "__static_attributes__" 267 (.ref 71)] 4), #[]⟩
def o69 : Obj := (co "NoWeight" 257 10 0 0 67 false 68 .none .none .none .none 260)
def o72 (P : Params) : Obj := ⟨(.type "dict"), none, (.dict #[en P "__module__" 262 (.str "trueword.errors" 187), en P "__firstlineno__" 266 (.int (10) 265), en P "__static_attributes__" 267 (.ref 71), en P "__doc__" 268 .none] 2), #[]⟩
def o73 : Obj := ⟨(.type "type"), none, (.cls ⟨"NoWeight", [(.ref 24)], [(.ref 73), (.ref 24), (.type "ValueError"), (.type "Exception"), (.type "BaseException"), (.type "object")], 72, "NoWeight", true, [], [], false, none, false⟩), #[(some (.ref 64)), none, (some (.str "NoWeight" 255)), (some (.str "NoWeight" 263)), (some (.builtin "ValueError.__new__")), (some (.bool true))]⟩
def o78 (P : Params) : Obj := ⟨(.type "dict"), none, (.dict #[en P "__module__" 278 (.str "trueword.errors" 187), en P "__qualname__" 280 (.str "NoShare" 279), en P "__firstlineno__" 282 (.int (12) 281), en P "__static_attributes__" 283 (.ref 83)] 4), #[]⟩
def o81 : Obj := (co "NoShare" 273 12 0 0 79 false 80 .none .none .none .none 276)
def o84 (P : Params) : Obj := ⟨(.type "dict"), none, (.dict #[en P "__module__" 278 (.str "trueword.errors" 187), en P "__firstlineno__" 282 (.int (12) 281), en P "__static_attributes__" 283 (.ref 83), en P "__doc__" 284 .none] 2), #[]⟩
def o85 : Obj := ⟨(.type "type"), none, (.cls ⟨"NoShare", [(.ref 24)], [(.ref 85), (.ref 24), (.type "ValueError"), (.type "Exception"), (.type "BaseException"), (.type "object")], 84, "NoShare", true, [], [], false, none, false⟩), #[(some (.ref 76)), none, (some (.str "NoShare" 271)), (some (.str "NoShare" 279)), (some (.builtin "ValueError.__new__")), (some (.bool true))]⟩
def o90 (P : Params) : Obj := ⟨(.type "dict"), none, (.dict #[en P "__module__" 294 (.str "trueword.errors" 187), en P "__qualname__" 296 (.str "NoRule" 295), en P "__firstlineno__" 298 (.int (14) 297), en P "__static_attributes__" 299 (.ref 95)] 4), #[]⟩
def o93 : Obj := (co "NoRule" 289 14 0 0 91 false 92 .none .none .none .none 292)
def o96 (P : Params) : Obj := ⟨(.type "dict"), none, (.dict #[en P "__module__" 294 (.str "trueword.errors" 187), en P "__firstlineno__" 298 (.int (14) 297), en P "__static_attributes__" 299 (.ref 95), en P "__doc__" 300 .none] 2), #[]⟩
def o97 : Obj := ⟨(.type "type"), none, (.cls ⟨"NoRule", [(.ref 24)], [(.ref 97), (.ref 24), (.type "ValueError"), (.type "Exception"), (.type "BaseException"), (.type "object")], 96, "NoRule", true, [], [], false, none, false⟩), #[(some (.ref 88)), none, (some (.str "NoRule" 287)), (some (.str "NoRule" 295)), (some (.builtin "ValueError.__new__")), (some (.bool true))]⟩
def t1 (P : Params) : BT := ia (((t0 P).set 3 fun _ => o3 P).set 12 fun _ => ⟨.none, none, (.fields #[(.int (2) 0), (.int (0) 0), (.ref 20), (.int (4) 0), (.int (0) 0), (.ref 33), (.int (6) 0), (.int (0) 0), (.ref 45), (.int (8) 0), (.int (0) 0), (.ref 57), (.int (10) 0), (.int (0) 0), (.ref 69), (.int (12) 0), (.int (0) 0), (.ref 81), (.int (14) 0), (.int (0) 0), (.ref 93)]), #[]⟩) 15 [⟨(.type "tuple"), none, (.seq #[(.type "ValueError")] 0), #[]⟩, ⟨(.type "builtin_function_or_method"), none, (.fields #[(.builtin "type.__prepare__"), (.type "type")]), #[]⟩, o17 P, oE, oF, o20, ⟨(.type "frame"), none, .plain, #[(some (.ref 20)), (some (.ref 3)), (some (.ref 17)), none, (some (.str "trueword.errors" 187)), none, (some (.ref 0))]⟩, oE, o23 P, o24, ⟨(.type "getset_descriptor"), none, (.fields #[(.str "__weakref__" 202), (.ref 24), (.builtin "ExceptionGroup.__weakref__"), .none]), #[]⟩, ⟨(.type "super"), none, (.fields #[(.ref 24), (.ref 24), (.ref 24)]), #[]⟩, ⟨(.type "builtin_function_or_method"), none, (.fields #[(.builtin "object.__init_subclass__"), (.ref 24)]), #[]⟩, ⟨(.type "tuple"), none, (.seq #[(.ref 24)] 0), #[]⟩, ⟨(.type "builtin_function_or_method"), none, (.fields #[(.builtin "type.__prepare__"), (.type "type")]), #[]⟩, o30 P, oE, oF, o33, ⟨(.type "frame"), none, .plain, #[(some (.ref 33)), (some (.ref 3)), (some (.ref 30)), none, (some (.str "trueword.errors" 187)), none, (some (.ref 0))]⟩, oE, o36 P, o37, ⟨(.type "super"), none, (.fields #[(.ref 37), (.ref 37), (.ref 37)]), #[]⟩, ⟨(.type "builtin_function_or_method"), none, (.fields #[(.builtin "object.__init_subclass__"), (.ref 37)]), #[]⟩, ⟨(.type "tuple"), none, (.seq #[(.ref 24)] 0), #[]⟩, ⟨(.type "builtin_function_or_method"), none, (.fields #[(.builtin "type.__prepare__"), (.type "type")]), #[]⟩, o42 P, oE, oF, o45, ⟨(.type "frame"), none, .plain, #[(some (.ref 45)), (some (.ref 3)), (some (.ref 42)), none, (some (.str "trueword.errors" 187)), none, (some (.ref 0))]⟩, oE, o48 P, o49, ⟨(.type "super"), none, (.fields #[(.ref 49), (.ref 49), (.ref 49)]), #[]⟩, ⟨(.type "builtin_function_or_method"), none, (.fields #[(.builtin "object.__init_subclass__"), (.ref 49)]), #[]⟩, ⟨(.type "tuple"), none, (.seq #[(.ref 24)] 0), #[]⟩, ⟨(.type "builtin_function_or_method"), none, (.fields #[(.builtin "type.__prepare__"), (.type "type")]), #[]⟩, o54 P, oE, oF, o57, ⟨(.type "frame"), none, .plain, #[(some (.ref 57)), (some (.ref 3)), (some (.ref 54)), none, (some (.str "trueword.errors" 187)), none, (some (.ref 0))]⟩, oE, o60 P, o61, ⟨(.type "super"), none, (.fields #[(.ref 61), (.ref 61), (.ref 61)]), #[]⟩, ⟨(.type "builtin_function_or_method"), none, (.fields #[(.builtin "object.__init_subclass__"), (.ref 61)]), #[]⟩, ⟨(.type "tuple"), none, (.seq #[(.ref 24)] 0), #[]⟩, ⟨(.type "builtin_function_or_method"), none, (.fields #[(.builtin "type.__prepare__"), (.type "type")]), #[]⟩, o66 P, oE, oF, o69, ⟨(.type "frame"), none, .plain, #[(some (.ref 69)), (some (.ref 3)), (some (.ref 66)), none, (some (.str "trueword.errors" 187)), none, (some (.ref 0))]⟩, oE, o72 P, o73, ⟨(.type "super"), none, (.fields #[(.ref 73), (.ref 73), (.ref 73)]), #[]⟩, ⟨(.type "builtin_function_or_method"), none, (.fields #[(.builtin "object.__init_subclass__"), (.ref 73)]), #[]⟩, ⟨(.type "tuple"), none, (.seq #[(.ref 24)] 0), #[]⟩, ⟨(.type "builtin_function_or_method"), none, (.fields #[(.builtin "type.__prepare__"), (.type "type")]), #[]⟩, o78 P, oE, oF, o81, ⟨(.type "frame"), none, .plain, #[(some (.ref 81)), (some (.ref 3)), (some (.ref 78)), none, (some (.str "trueword.errors" 187)), none, (some (.ref 0))]⟩, oE, o84 P, o85, ⟨(.type "super"), none, (.fields #[(.ref 85), (.ref 85), (.ref 85)]), #[]⟩, ⟨(.type "builtin_function_or_method"), none, (.fields #[(.builtin "object.__init_subclass__"), (.ref 85)]), #[]⟩, ⟨(.type "tuple"), none, (.seq #[(.ref 24)] 0), #[]⟩, ⟨(.type "builtin_function_or_method"), none, (.fields #[(.builtin "type.__prepare__"), (.type "type")]), #[]⟩, o90 P, oE, oF, o93, ⟨(.type "frame"), none, .plain, #[(some (.ref 93)), (some (.ref 3)), (some (.ref 90)), none, (some (.str "trueword.errors" 187)), none, (some (.ref 0))]⟩, oE, o96 P, o97, ⟨(.type "super"), none, (.fields #[(.ref 97), (.ref 97), (.ref 97)]), #[]⟩, ⟨(.type "builtin_function_or_method"), none, (.fields #[(.builtin "object.__init_subclass__"), (.ref 97)]), #[]⟩]
def o3_1 (P : Params) : Obj := ⟨(.type "dict"), none, (.dict #[en P "__name__" 165 (.str "trueword.rings" 549), en P "__doc__" 166 .none, en P "__package__" 167 .none, en P "__loader__" 168 (.builtin "__main__.__loader__#opaque"), en P "__spec__" 169 .none, en P "__annotations__" 170 (.ref 6), en P "__builtins__" 171 (.ref 4), en P "__file__" 173 (.str "/claim/cut.py" 172), en P "__cached__" 174 .none, en P "TrueError" 206 (.ref 24), en P "NoPays" 222 (.ref 37), en P "NoHouse" 238 (.ref 49), en P "NoMenu" 254 (.ref 61), en P "NoWeight" 270 (.ref 73), en P "NoShare" 286 (.ref 85), en P "NoRule" 302 (.ref 97), en P "NoRow" 318 (.ref 109), en P "NoStand" 334 (.ref 121), en P "NoWord" 350 (.ref 133), en P "MOST_WORDS" 354 (.int (8) 353), en P "is_whole" 361 (.ref 142), en P "is_bounded" 368 (.ref 149), en P "is_grid_row" 374 (.ref 154), en P "turn" 383 (.ref 161), en P "gain" 393 (.ref 168), en P "first_gain" 404 (.ref 175), en P "MOST_LETTERS" 408 (.int (8) 407), en P "MOST_OUTCOMES" 410 (.int (8) 409), en P "MOST_HANDS" 412 (.int (4) 411), en P "MOST_ROWS" 414 (.int (256) 413), en P "is_name" 420 (.ref 180), en P "are_names" 426 (.ref 185), en P "are_worths" 432 (.ref 190), en P "is_hand" 440 (.ref 197), en P "name_of" 447 (.ref 204), en P "names_of" 453 (.ref 209), en P "words_of_hand" 460 (.ref 216), en P "worths_of_hand" 467 (.ref 223), en P "count_of_rows" 476 (.ref 230), en P "makes_house" 482 (.ref 235), en P "kept_hand" 488 (.ref 240), en P "house_of" 494 (.ref 245), en P "outcomes_of" 501 (.ref 252), en P "hands_of" 508 (.ref 259), en P "with_each" 514 (.ref 264), en P "rows_over" 523 (.ref 271), en P "without" 531 (.ref 278), en P "others_of" 539 (.ref 285), en P "row_with" 548 (.ref 292), en P "total_of" 557 (.ref 299), en P "words_of" 564 (.ref 306)] 51), #[]⟩
def o24_1 : Obj := ⟨(.type "type"), none, (.cls ⟨"TrueError", [(.type "ValueError")], [(.ref 24), (.type "ValueError"), (.type "Exception"), (.type "BaseException"), (.type "object")], 23, "TrueError", true, [], [(.ref 37), (.ref 49), (.ref 61), (.ref 73), (.ref 85), (.ref 97), (.ref 109), (.ref 121), (.ref 133)], false, none, false⟩), #[(some (.ref 15)), none, (some (.str "TrueError" 189)), (some (.str "TrueError" 197)), (some (.builtin "ValueError.__new__")), (some (.bool true))]⟩
def o102 (P : Params) : Obj := ⟨(.type "dict"), none, (.dict #[en P "__module__" 310 (.str "trueword.errors" 187), en P "__qualname__" 312 (.str "NoRow" 311), en P "__firstlineno__" 314 (.int (16) 313), en P "__static_attributes__" 315 (.ref 107)] 4), #[]⟩
def o105 : Obj := (co "NoRow" 305 16 0 0 103 false 104 .none .none .none .none 308)
def o108 (P : Params) : Obj := ⟨(.type "dict"), none, (.dict #[en P "__module__" 310 (.str "trueword.errors" 187), en P "__firstlineno__" 314 (.int (16) 313), en P "__static_attributes__" 315 (.ref 107), en P "__doc__" 316 .none] 2), #[]⟩
def o109 : Obj := ⟨(.type "type"), none, (.cls ⟨"NoRow", [(.ref 24)], [(.ref 109), (.ref 24), (.type "ValueError"), (.type "Exception"), (.type "BaseException"), (.type "object")], 108, "NoRow", true, [], [], false, none, false⟩), #[(some (.ref 100)), none, (some (.str "NoRow" 303)), (some (.str "NoRow" 311)), (some (.builtin "ValueError.__new__")), (some (.bool true))]⟩
def o114 (P : Params) : Obj := ⟨(.type "dict"), none, (.dict #[en P "__module__" 326 (.str "trueword.errors" 187), en P "__qualname__" 328 (.str "NoStand" 327), en P "__firstlineno__" 330 (.int (18) 329), en P "__static_attributes__" 331 (.ref 119)] 4), #[]⟩
def o117 : Obj := (co "NoStand" 321 18 0 0 115 false 116 .none .none .none .none 324)
def o120 (P : Params) : Obj := ⟨(.type "dict"), none, (.dict #[en P "__module__" 326 (.str "trueword.errors" 187), en P "__firstlineno__" 330 (.int (18) 329), en P "__static_attributes__" 331 (.ref 119), en P "__doc__" 332 .none] 2), #[]⟩
def o121 : Obj := ⟨(.type "type"), none, (.cls ⟨"NoStand", [(.ref 24)], [(.ref 121), (.ref 24), (.type "ValueError"), (.type "Exception"), (.type "BaseException"), (.type "object")], 120, "NoStand", true, [], [], false, none, false⟩), #[(some (.ref 112)), none, (some (.str "NoStand" 319)), (some (.str "NoStand" 327)), (some (.builtin "ValueError.__new__")), (some (.bool true))]⟩
def o126 (P : Params) : Obj := ⟨(.type "dict"), none, (.dict #[en P "__module__" 342 (.str "trueword.errors" 187), en P "__qualname__" 344 (.str "NoWord" 343), en P "__firstlineno__" 346 (.int (20) 345), en P "__static_attributes__" 347 (.ref 131)] 4), #[]⟩
def o129 : Obj := (co "NoWord" 337 20 0 0 127 false 128 .none .none .none .none 340)
def o132 (P : Params) : Obj := ⟨(.type "dict"), none, (.dict #[en P "__module__" 342 (.str "trueword.errors" 187), en P "__firstlineno__" 346 (.int (20) 345), en P "__static_attributes__" 347 (.ref 131), en P "__doc__" 348 .none] 2), #[]⟩
def o133 : Obj := ⟨(.type "type"), none, (.cls ⟨"NoWord", [(.ref 24)], [(.ref 133), (.ref 24), (.type "ValueError"), (.type "Exception"), (.type "BaseException"), (.type "object")], 132, "NoWord", true, [], [], false, none, false⟩), #[(some (.ref 124)), none, (some (.str "NoWord" 335)), (some (.str "NoWord" 343)), (some (.builtin "ValueError.__new__")), (some (.bool true))]⟩
def o141 : Obj := (co "is_whole" 355 24 1 3 136 true 137 .none (.ref 138) (.ref 139) (.ref 140) 359)
def o142 : Obj := (fo 13 "is_whole" "trueword.grids" 351 141)
def o148 : Obj := (co "is_bounded" 362 26 1 3 143 true 144 .none (.ref 145) (.ref 146) (.ref 147) 366)
def o149 : Obj := (fo 14 "is_bounded" "trueword.grids" 351 148)
def o153 : Obj := (co "is_grid_row" 369 28 2 3 150 true 151 .none .none .none (.ref 152) 372)
def o154 : Obj := (fo 15 "is_grid_row" "trueword.grids" 351 153)
def o160 : Obj := (co "turn" 375 32 3 3 155 true 156 .none (.ref 157) (.ref 158) (.ref 159) 381)
def o161 : Obj := (fo 16 "turn" "trueword.grids" 351 160)
def o167 : Obj := (co "gain" 384 34 4 3 162 true 163 .none (.ref 164) (.ref 165) (.ref 166) 391)
def o168 : Obj := (fo 17 "gain" "trueword.grids" 351 167)
def o174 : Obj := (co "first_gain" 394 36 2 3 169 true 170 .none (.ref 171) (.ref 172) (.ref 173) 402)
def o175 : Obj := (fo 18 "first_gain" "trueword.grids" 351 174)
def o179 : Obj := (co "is_name" 415 48 1 3 176 true 177 .none .none .none (.ref 178) 418)
def o180 : Obj := (fo 24 "is_name" "trueword.houses" 405 179)
def o184 : Obj := (co "are_names" 421 52 2 3 181 true 182 .none .none .none (.ref 183) 424)
def o185 : Obj := (fo 25 "are_names" "trueword.houses" 405 184)
def o189 : Obj := (co "are_worths" 427 56 3 3 186 true 187 .none .none .none (.ref 188) 430)
def o190 : Obj := (fo 26 "are_worths" "trueword.houses" 405 189)
def o196 : Obj := (co "is_hand" 433 60 2 3 191 true 192 .none (.ref 193) (.ref 194) (.ref 195) 438)
def o197 : Obj := (fo 27 "is_hand" "trueword.houses" 405 196)
def o203 : Obj := (co "name_of" 441 64 1 3 198 true 199 .none (.ref 200) (.ref 201) (.ref 202) 445)
def o204 : Obj := (fo 28 "name_of" "trueword.houses" 405 203)
def o208 : Obj := (co "names_of" 448 66 1 3 205 true 206 .none .none .none (.ref 207) 451)
def o209 : Obj := (fo 29 "names_of" "trueword.houses" 405 208)
def o215 : Obj := (co "words_of_hand" 454 68 1 3 210 true 211 .none (.ref 212) (.ref 213) (.ref 214) 458)
def o216 : Obj := (fo 30 "words_of_hand" "trueword.houses" 405 215)
def o222 : Obj := (co "worths_of_hand" 461 70 1 3 217 true 218 .none (.ref 219) (.ref 220) (.ref 221) 465)
def o223 : Obj := (fo 31 "worths_of_hand" "trueword.houses" 405 222)
def o229 : Obj := (co "count_of_rows" 468 72 1 3 224 true 225 .none (.ref 226) (.ref 227) (.ref 228) 474)
def o230 : Obj := (fo 32 "count_of_rows" "trueword.houses" 405 229)
def o234 : Obj := (co "makes_house" 477 77 2 3 231 true 232 .none .none .none (.ref 233) 480)
def o235 : Obj := (fo 33 "makes_house" "trueword.houses" 405 234)
def o239 : Obj := (co "kept_hand" 483 83 1 3 236 true 237 .none .none .none (.ref 238) 486)
def o240 : Obj := (fo 34 "kept_hand" "trueword.houses" 405 239)
def o244 : Obj := (co "house_of" 489 86 2 3 241 true 242 .none .none .none (.ref 243) 492)
def o245 : Obj := (fo 35 "house_of" "trueword.houses" 405 244)
def o251 : Obj := (co "outcomes_of" 495 90 1 3 246 true 247 .none (.ref 248) (.ref 249) (.ref 250) 499)
def o252 : Obj := (fo 36 "outcomes_of" "trueword.houses" 405 251)
def o258 : Obj := (co "hands_of" 502 92 1 3 253 true 254 .none (.ref 255) (.ref 256) (.ref 257) 506)
def o259 : Obj := (fo 37 "hands_of" "trueword.houses" 405 258)
def o263 : Obj := (co "with_each" 509 94 2 3 260 true 261 .none .none .none (.ref 262) 512)
def o264 : Obj := (fo 38 "with_each" "trueword.houses" 405 263)
def o270 : Obj := (co "rows_over" 515 99 1 3 265 true 266 .none (.ref 267) (.ref 268) (.ref 269) 521)
def o271 : Obj := (fo 39 "rows_over" "trueword.houses" 405 270)
def o277 : Obj := (co "without" 524 104 2 3 272 true 273 .none (.ref 274) (.ref 275) (.ref 276) 529)
def o278 : Obj := (fo 40 "without" "trueword.houses" 405 277)
def o284 : Obj := (co "others_of" 532 106 2 3 279 true 280 .none (.ref 281) (.ref 282) (.ref 283) 537)
def o285 : Obj := (fo 41 "others_of" "trueword.houses" 405 284)
def o291 : Obj := (co "row_with" 540 108 3 3 286 true 287 .none (.ref 288) (.ref 289) (.ref 290) 546)
def o292 : Obj := (fo 42 "row_with" "trueword.houses" 405 291)
def o298 : Obj := (co "total_of" 551 111 1 3 293 true 294 .none (.ref 295) (.ref 296) (.ref 297) 555)
def o299 : Obj := (fo 44 "total_of" "trueword.rings" 549 298)
def o305 : Obj := (co "words_of" 558 113 1 3 300 true 301 .none (.ref 302) (.ref 303) (.ref 304) 562)
def o306 : Obj := (fo 45 "words_of" "trueword.rings" 549 305)
def t2 (P : Params) : BT := ia ((((t1 P).set 3 fun _ => o3_1 P).set 12 fun _ => ⟨.none, none, (.fields #[(.int (2) 0), (.int (0) 0), (.ref 20), (.int (4) 0), (.int (0) 0), (.ref 33), (.int (6) 0), (.int (0) 0), (.ref 45), (.int (8) 0), (.int (0) 0), (.ref 57), (.int (10) 0), (.int (0) 0), (.ref 69), (.int (12) 0), (.int (0) 0), (.ref 81), (.int (14) 0), (.int (0) 0), (.ref 93), (.int (16) 0), (.int (0) 0), (.ref 105), (.int (18) 0), (.int (0) 0), (.ref 117), (.int (20) 0), (.int (0) 0), (.ref 129), (.int (24) 0), (.int (0) 0), (.ref 141), (.int (26) 0), (.int (0) 0), (.ref 148), (.int (28) 0), (.int (0) 0), (.ref 153), (.int (32) 0), (.int (0) 0), (.ref 160), (.int (34) 0), (.int (0) 0), (.ref 167), (.int (36) 0), (.int (0) 0), (.ref 174), (.int (48) 0), (.int (0) 0), (.ref 179), (.int (52) 0), (.int (0) 0), (.ref 184), (.int (56) 0), (.int (0) 0), (.ref 189), (.int (60) 0), (.int (0) 0), (.ref 196), (.int (64) 0), (.int (0) 0), (.ref 203), (.int (66) 0), (.int (0) 0), (.ref 208), (.int (68) 0), (.int (0) 0), (.ref 215), (.int (70) 0), (.int (0) 0), (.ref 222), (.int (72) 0), (.int (0) 0), (.ref 229), (.int (77) 0), (.int (0) 0), (.ref 234), (.int (83) 0), (.int (0) 0), (.ref 239), (.int (86) 0), (.int (0) 0), (.ref 244), (.int (90) 0), (.int (0) 0), (.ref 251), (.int (92) 0), (.int (0) 0), (.ref 258), (.int (94) 0), (.int (0) 0), (.ref 263), (.int (99) 0), (.int (0) 0), (.ref 270), (.int (104) 0), (.int (0) 0), (.ref 277), (.int (106) 0), (.int (0) 0), (.ref 284), (.int (108) 0), (.int (0) 0), (.ref 291), (.int (111) 0), (.int (0) 0), (.ref 298), (.int (113) 0), (.int (0) 0), (.ref 305)]), #[]⟩).set 24 fun _ => o24_1) 100 [⟨(.type "tuple"), none, (.seq #[(.ref 24)] 0), #[]⟩, ⟨(.type "builtin_function_or_method"), none, (.fields #[(.builtin "type.__prepare__"), (.type "type")]), #[]⟩, o102 P, oE, oF, o105, ⟨(.type "frame"), none, .plain, #[(some (.ref 105)), (some (.ref 3)), (some (.ref 102)), none, (some (.str "trueword.errors" 187)), none, (some (.ref 0))]⟩, oE, o108 P, o109, ⟨(.type "super"), none, (.fields #[(.ref 109), (.ref 109), (.ref 109)]), #[]⟩, ⟨(.type "builtin_function_or_method"), none, (.fields #[(.builtin "object.__init_subclass__"), (.ref 109)]), #[]⟩, ⟨(.type "tuple"), none, (.seq #[(.ref 24)] 0), #[]⟩, ⟨(.type "builtin_function_or_method"), none, (.fields #[(.builtin "type.__prepare__"), (.type "type")]), #[]⟩, o114 P, oE, oF, o117, ⟨(.type "frame"), none, .plain, #[(some (.ref 117)), (some (.ref 3)), (some (.ref 114)), none, (some (.str "trueword.errors" 187)), none, (some (.ref 0))]⟩, oE, o120 P, o121, ⟨(.type "super"), none, (.fields #[(.ref 121), (.ref 121), (.ref 121)]), #[]⟩, ⟨(.type "builtin_function_or_method"), none, (.fields #[(.builtin "object.__init_subclass__"), (.ref 121)]), #[]⟩, ⟨(.type "tuple"), none, (.seq #[(.ref 24)] 0), #[]⟩, ⟨(.type "builtin_function_or_method"), none, (.fields #[(.builtin "type.__prepare__"), (.type "type")]), #[]⟩, o126 P, oE, oF, o129, ⟨(.type "frame"), none, .plain, #[(some (.ref 129)), (some (.ref 3)), (some (.ref 126)), none, (some (.str "trueword.errors" 187)), none, (some (.ref 0))]⟩, oE, o132 P, o133, ⟨(.type "super"), none, (.fields #[(.ref 133), (.ref 133), (.ref 133)]), #[]⟩, ⟨(.type "builtin_function_or_method"), none, (.fields #[(.builtin "object.__init_subclass__"), (.ref 133)]), #[]⟩, oE, oF, (ts 358 ["thing"]), oE, (xo 13 "is_whole"), o141, o142, oE, oF, (ts 365 ["thing"]), oE, (xo 14 "is_bounded"), o148, o149, oE, oF, (xo 15 "is_grid_row"), o153, o154, oE, oF, (ts 378 ["grid", "s", "t"]), oE, (xo 16 "turn"), o160, o161, oE, oF, (ts 387 ["grid", "pays", "t", "s"]), oE, (xo 17 "gain"), o167, o168, oE, oF, (ts 397 ["grid", "pays", "t", "s", "more"]), oE, (xo 18 "first_gain"), o174, o175, oE, oF, (xo 24 "is_name"), o179, o180, oE, oF, (xo 25 "are_names"), o184, o185, oE, oF, (xo 26 "are_worths"), o189, o190, oE, oF, (ts 436 ["thing", "width"]), oE, (xo 27 "is_hand"), o196, o197, oE, oF, (ts 444 ["hand"]), oE, (xo 28 "name_of"), o203, o204, oE, oF, (xo 29 "names_of"), o208, o209, oE, oF, (ts 457 ["hand"]), oE, (xo 30 "words_of_hand"), o215, o216, oE, oF, (ts 464 ["hand"]), oE, (xo 31 "worths_of_hand"), o222, o223, oE, oF, (ts 471 ["hands", "count", "hand"]), oE, (xo 32 "count_of_rows"), o229, o230, oE, oF, (xo 33 "makes_house"), o234, o235, oE, oF, (xo 34 "kept_hand"), o239, o240, oE, oF, (xo 35 "house_of"), o244, o245, oE, oF, (ts 498 ["house"]), oE, (xo 36 "outcomes_of"), o251, o252, oE, oF, (ts 505 ["house"]), oE, (xo 37 "hands_of"), o258, o259, oE, oF, (xo 38 "with_each"), o263, o264, oE, oF, (ts 518 ["hands", "rows", "hand"]), oE, (xo 39 "rows_over"), o270, o271, oE, oF, (ts 527 ["things", "k"]), oE, (xo 40 "without"), o277, o278, oE, oF, (ts 535 ["house", "k"]), oE, (xo 41 "others_of"), o284, o285, oE, oF, (ts 543 ["others", "k", "word"]), oE, (xo 42 "row_with"), o291, o292, oE, oF, (ts 554 ["walk"]), oE, (xo 44 "total_of"), o298, o299, oE, oF, (ts 561 ["walk"]), oE, (xo 45 "words_of"), o305, o306]
def o3_2 (P : Params) : Obj := ⟨(.type "dict"), none, (.dict #[en P "__name__" 165 (.str "law_trueword_k40_asked_of_the_hands" 709), en P "__doc__" 166 .none, en P "__package__" 167 .none, en P "__loader__" 168 (.builtin "__main__.__loader__#opaque"), en P "__spec__" 169 .none, en P "__annotations__" 170 (.ref 6), en P "__builtins__" 171 (.ref 4), en P "__file__" 173 (.str "/claim/cut.py" 172), en P "__cached__" 174 .none, en P "TrueError" 206 (.ref 24), en P "NoPays" 222 (.ref 37), en P "NoHouse" 238 (.ref 49), en P "NoMenu" 254 (.ref 61), en P "NoWeight" 270 (.ref 73), en P "NoShare" 286 (.ref 85), en P "NoRule" 302 (.ref 97), en P "NoRow" 318 (.ref 109), en P "NoStand" 334 (.ref 121), en P "NoWord" 350 (.ref 133), en P "MOST_WORDS" 354 (.int (8) 353), en P "is_whole" 361 (.ref 142), en P "is_bounded" 368 (.ref 149), en P "is_grid_row" 374 (.ref 154), en P "turn" 383 (.ref 161), en P "gain" 393 (.ref 168), en P "first_gain" 404 (.ref 175), en P "MOST_LETTERS" 408 (.int (8) 407), en P "MOST_OUTCOMES" 410 (.int (8) 409), en P "MOST_HANDS" 412 (.int (4) 411), en P "MOST_ROWS" 414 (.int (256) 413), en P "is_name" 420 (.ref 180), en P "are_names" 426 (.ref 185), en P "are_worths" 432 (.ref 190), en P "is_hand" 440 (.ref 197), en P "name_of" 447 (.ref 204), en P "names_of" 453 (.ref 209), en P "words_of_hand" 460 (.ref 216), en P "worths_of_hand" 467 (.ref 223), en P "count_of_rows" 476 (.ref 230), en P "makes_house" 482 (.ref 235), en P "kept_hand" 488 (.ref 240), en P "house_of" 494 (.ref 245), en P "outcomes_of" 501 (.ref 252), en P "hands_of" 508 (.ref 259), en P "with_each" 514 (.ref 264), en P "rows_over" 523 (.ref 271), en P "without" 531 (.ref 278), en P "others_of" 539 (.ref 285), en P "row_with" 548 (.ref 292), en P "total_of" 557 (.ref 299), en P "words_of" 564 (.ref 306), en P "walks_of_one_turn" 570 (.ref 311), en P "least_to" 576 (.ref 316), en P "lengthened" 582 (.ref 321), en P "after_a_turn" 588 (.ref 326), en P "has_honest" 594 (.ref 331), en P "closed_below_zero" 603 (.ref 338), en P "ring" 609 (.ref 343), en P "refuse_ring" 618 (.ref 350), en P "lesser" 626 (.ref 357), en P "least_roads" 632 (.ref 362), en P "greatest" 640 (.ref 367), en P "dealt_places" 648 (.ref 372), en P "worths_at" 654 (.ref 377), en P "grid_of" 660 (.ref 382), en P "grids_of" 668 (.ref 387), en P "paper" 678 (.ref 394), en P "verdict" 691 (.ref 401), en P "asked_of" 702 (.ref 408), en P "asked" 708 (.ref 413), en P "_law_cell_at" 718 (.ref 420), en P "_law_pool" 724 (.ref 425), en P "_law_drawn" 735 (.ref 432), en P "_law_worth" 742 (.ref 439), en P "_law_parts" 748 (.ref 444), en P "_law_rows" 754 (.ref 449), en P "_law_score" 767 (.ref 456), en P "_law_places" 773 (.ref 461), en P "_law_table" 783 (.ref 468), en P "_law_grid" 789 (.ref 473), en P "_law_turn" 798 (.ref 480), en P "_law_whole" 805 (.ref 487), en P "_law_honest" 815 (.ref 494), en P "_law_refused" 826 (.ref 501), en P "_law_due" 839 (.ref 508), en P "_law_told" 845 (.ref 513), en P "law" 858 (.ref 520)] 87), #[]⟩
def o310 : Obj := (co "walks_of_one_turn" 565 115 2 3 307 true 308 .none .none .none (.ref 309) 568)
def o311 : Obj := (fo 46 "walks_of_one_turn" "trueword.rings" 549 310)
def o315 : Obj := (co "least_to" 571 117 3 3 312 true 313 .none .none .none (.ref 314) 574)
def o316 : Obj := (fo 47 "least_to" "trueword.rings" 549 315)
def o320 : Obj := (co "lengthened" 577 120 2 3 317 true 318 .none .none .none (.ref 319) 580)
def o321 : Obj := (fo 48 "lengthened" "trueword.rings" 549 320)
def o325 : Obj := (co "after_a_turn" 583 122 3 3 322 true 323 .none .none .none (.ref 324) 586)
def o326 : Obj := (fo 49 "after_a_turn" "trueword.rings" 549 325)
def o330 : Obj := (co "has_honest" 589 124 1 3 327 true 328 .none .none .none (.ref 329) 592)
def o331 : Obj := (fo 50 "has_honest" "trueword.rings" 549 330)
def o337 : Obj := (co "closed_below_zero" 595 129 1 3 332 true 333 .none (.ref 334) (.ref 335) (.ref 336) 601)
def o338 : Obj := (fo 51 "closed_below_zero" "trueword.rings" 549 337)
def o342 : Obj := (co "ring" 604 134 1 3 339 true 340 .none .none .none (.ref 341) 607)
def o343 : Obj := (fo 52 "ring" "trueword.rings" 549 342)
def o349 : Obj := (co "refuse_ring" 612 145 1 3 344 true 345 .none (.ref 346) (.ref 347) (.ref 348) 616)
def o350 : Obj := (fo 54 "refuse_ring" "trueword.roads" 610 349)
def o356 : Obj := (co "lesser" 619 148 2 3 351 true 352 .none (.ref 353) (.ref 354) (.ref 355) 624)
def o357 : Obj := (fo 55 "lesser" "trueword.roads" 610 356)
def o361 : Obj := (co "least_roads" 627 150 2 3 358 true 359 .none .none .none (.ref 360) 630)
def o362 : Obj := (fo 56 "least_roads" "trueword.roads" 610 361)
def o366 : Obj := (co "greatest" 635 155 1 3 363 true 364 .none .none .none (.ref 365) 638)
def o367 : Obj := (fo 58 "greatest" "trueword.pays" 633 366)
def o371 : Obj := (co "dealt_places" 643 160 4 3 368 true 369 .none .none .none (.ref 370) 646)
def o372 : Obj := (fo 60 "dealt_places" "trueword.tables" 641 371)
def o376 : Obj := (co "worths_at" 649 163 2 3 373 true 374 .none .none .none (.ref 375) 652)
def o377 : Obj := (fo 61 "worths_at" "trueword.tables" 641 376)
def o381 : Obj := (co "grid_of" 655 165 4 3 378 true 379 .none .none .none (.ref 380) 658)
def o382 : Obj := (fo 62 "grid_of" "trueword.tables" 641 381)
def o386 : Obj := (co "grids_of" 663 169 2 3 383 true 384 .none .none .none (.ref 385) 666)
def o387 : Obj := (fo 64 "grids_of" "trueword.verdicts" 661 386)
def o393 : Obj := (co "paper" 669 174 3 3 388 true 389 .none (.ref 390) (.ref 391) (.ref 392) 676)
def o394 : Obj := (fo 65 "paper" "trueword.verdicts" 661 393)
def o400 : Obj := (co "verdict" 679 177 2 3 395 true 396 .none (.ref 397) (.ref 398) (.ref 399) 689)
def o401 : Obj := (fo 66 "verdict" "trueword.verdicts" 661 400)
def o407 : Obj := (co "asked_of" 692 185 4 3 402 true 403 .none (.ref 404) (.ref 405) (.ref 406) 700)
def o408 : Obj := (fo 67 "asked_of" "trueword.verdicts" 661 407)
def o412 : Obj := (co "asked" 703 188 3 3 409 true 410 .none .none .none (.ref 411) 706)
def o413 : Obj := (fo 68 "asked" "trueword.verdicts" 661 412)
def o419 : Obj := (co "_law_cell_at" 711 193 2 3 414 true 415 .none (.ref 416) (.ref 417) (.ref 418) 716)
def o420 : Obj := (fo 70 "_law_cell_at" "law_trueword_k40_asked_of_the_hands" 709 419)
def o424 : Obj := (co "_law_pool" 719 197 2 3 421 true 422 .none .none .none (.ref 423) 722)
def o425 : Obj := (fo 71 "_law_pool" "law_trueword_k40_asked_of_the_hands" 709 424)
def o431 : Obj := (co "_law_drawn" 725 210 2 3 426 true 427 .none (.ref 428) (.ref 429) (.ref 430) 733)
def o432 : Obj := (fo 72 "_law_drawn" "law_trueword_k40_asked_of_the_hands" 709 431)
def o438 : Obj := (co "_law_worth" 736 217 1 3 433 true 434 .none (.ref 435) (.ref 436) (.ref 437) 740)
def o439 : Obj := (fo 73 "_law_worth" "law_trueword_k40_asked_of_the_hands" 709 438)
def o443 : Obj := (co "_law_parts" 743 225 2 3 440 true 441 .none .none .none (.ref 442) 746)
def o444 : Obj := (fo 74 "_law_parts" "law_trueword_k40_asked_of_the_hands" 709 443)
def o448 : Obj := (co "_law_rows" 749 240 1 3 445 true 446 .none .none .none (.ref 447) 752)
def o449 : Obj := (fo 75 "_law_rows" "law_trueword_k40_asked_of_the_hands" 709 448)
def o455 : Obj := (co "_law_score" 755 248 4 3 450 true 451 .none (.ref 452) (.ref 453) (.ref 454) 765)
def o456 : Obj := (fo 76 "_law_score" "law_trueword_k40_asked_of_the_hands" 709 455)
def o460 : Obj := (co "_law_places" 768 254 3 3 457 true 458 .none .none .none (.ref 459) 771)
def o461 : Obj := (fo 77 "_law_places" "law_trueword_k40_asked_of_the_hands" 709 460)
def o467 : Obj := (co "_law_table" 774 274 2 3 462 true 463 .none (.ref 464) (.ref 465) (.ref 466) 781)
def o468 : Obj := (fo 78 "_law_table" "law_trueword_k40_asked_of_the_hands" 709 467)
def o472 : Obj := (co "_law_grid" 784 279 4 3 469 true 470 .none .none .none (.ref 471) 787)
def o473 : Obj := (fo 79 "_law_grid" "law_trueword_k40_asked_of_the_hands" 709 472)
def o479 : Obj := (co "_law_turn" 790 285 3 3 474 true 475 .none (.ref 476) (.ref 477) (.ref 478) 796)
def o480 : Obj := (fo 80 "_law_turn" "law_trueword_k40_asked_of_the_hands" 709 479)
def o486 : Obj := (co "_law_whole" 799 287 1 3 481 true 482 .none (.ref 483) (.ref 484) (.ref 485) 803)
def o487 : Obj := (fo 81 "_law_whole" "law_trueword_k40_asked_of_the_hands" 709 486)
def o493 : Obj := (co "_law_honest" 806 289 2 3 488 true 489 .none (.ref 490) (.ref 491) (.ref 492) 813)
def o494 : Obj := (fo 82 "_law_honest" "law_trueword_k40_asked_of_the_hands" 709 493)
def o500 : Obj := (co "_law_refused" 816 299 3 3 495 true 496 .none (.ref 497) (.ref 498) (.ref 499) 824)
def o501 : Obj := (fo 83 "_law_refused" "law_trueword_k40_asked_of_the_hands" 709 500)
def o507 : Obj := (co "_law_due" 827 306 3 3 502 true 503 .none (.ref 504) (.ref 505) (.ref 506) 837)
def o508 : Obj := (fo 84 "_law_due" "law_trueword_k40_asked_of_the_hands" 709 507)
def o512 : Obj := (co "_law_told" 840 315 5 3 509 true 510 .none .none .none (.ref 511) 843)
def o513 : Obj := (fo 85 "_law_told" "law_trueword_k40_asked_of_the_hands" 709 512)
def o519 : Obj := (co "law" 846 320 1 3 514 true 515 .none (.ref 516) (.ref 517) (.ref 518) 856)
def o520 : Obj := (fo 86 "law" "law_trueword_k40_asked_of_the_hands" 709 519)
def t3 (P : Params) : BT := ia (((t2 P).set 3 fun _ => o3_2 P).set 12 fun _ => ⟨.none, none, (.fields #[(.int (2) 0), (.int (0) 0), (.ref 20), (.int (4) 0), (.int (0) 0), (.ref 33), (.int (6) 0), (.int (0) 0), (.ref 45), (.int (8) 0), (.int (0) 0), (.ref 57), (.int (10) 0), (.int (0) 0), (.ref 69), (.int (12) 0), (.int (0) 0), (.ref 81), (.int (14) 0), (.int (0) 0), (.ref 93), (.int (16) 0), (.int (0) 0), (.ref 105), (.int (18) 0), (.int (0) 0), (.ref 117), (.int (20) 0), (.int (0) 0), (.ref 129), (.int (24) 0), (.int (0) 0), (.ref 141), (.int (26) 0), (.int (0) 0), (.ref 148), (.int (28) 0), (.int (0) 0), (.ref 153), (.int (32) 0), (.int (0) 0), (.ref 160), (.int (34) 0), (.int (0) 0), (.ref 167), (.int (36) 0), (.int (0) 0), (.ref 174), (.int (48) 0), (.int (0) 0), (.ref 179), (.int (52) 0), (.int (0) 0), (.ref 184), (.int (56) 0), (.int (0) 0), (.ref 189), (.int (60) 0), (.int (0) 0), (.ref 196), (.int (64) 0), (.int (0) 0), (.ref 203), (.int (66) 0), (.int (0) 0), (.ref 208), (.int (68) 0), (.int (0) 0), (.ref 215), (.int (70) 0), (.int (0) 0), (.ref 222), (.int (72) 0), (.int (0) 0), (.ref 229), (.int (77) 0), (.int (0) 0), (.ref 234), (.int (83) 0), (.int (0) 0), (.ref 239), (.int (86) 0), (.int (0) 0), (.ref 244), (.int (90) 0), (.int (0) 0), (.ref 251), (.int (92) 0), (.int (0) 0), (.ref 258), (.int (94) 0), (.int (0) 0), (.ref 263), (.int (99) 0), (.int (0) 0), (.ref 270), (.int (104) 0), (.int (0) 0), (.ref 277), (.int (106) 0), (.int (0) 0), (.ref 284), (.int (108) 0), (.int (0) 0), (.ref 291), (.int (111) 0), (.int (0) 0), (.ref 298), (.int (113) 0), (.int (0) 0), (.ref 305), (.int (115) 0), (.int (0) 0), (.ref 310), (.int (117) 0), (.int (0) 0), (.ref 315), (.int (120) 0), (.int (0) 0), (.ref 320), (.int (122) 0), (.int (0) 0), (.ref 325), (.int (124) 0), (.int (0) 0), (.ref 330), (.int (129) 0), (.int (0) 0), (.ref 337), (.int (134) 0), (.int (0) 0), (.ref 342), (.int (145) 0), (.int (0) 0), (.ref 349), (.int (148) 0), (.int (0) 0), (.ref 356), (.int (150) 0), (.int (0) 0), (.ref 361), (.int (155) 0), (.int (0) 0), (.ref 366), (.int (160) 0), (.int (0) 0), (.ref 371), (.int (163) 0), (.int (0) 0), (.ref 376), (.int (165) 0), (.int (0) 0), (.ref 381), (.int (169) 0), (.int (0) 0), (.ref 386), (.int (174) 0), (.int (0) 0), (.ref 393), (.int (177) 0), (.int (0) 0), (.ref 400), (.int (185) 0), (.int (0) 0), (.ref 407), (.int (188) 0), (.int (0) 0), (.ref 412), (.int (193) 0), (.int (0) 0), (.ref 419), (.int (197) 0), (.int (0) 0), (.ref 424), (.int (210) 0), (.int (0) 0), (.ref 431), (.int (217) 0), (.int (0) 0), (.ref 438), (.int (225) 0), (.int (0) 0), (.ref 443), (.int (240) 0), (.int (0) 0), (.ref 448), (.int (248) 0), (.int (0) 0), (.ref 455), (.int (254) 0), (.int (0) 0), (.ref 460), (.int (274) 0), (.int (0) 0), (.ref 467), (.int (279) 0), (.int (0) 0), (.ref 472), (.int (285) 0), (.int (0) 0), (.ref 479), (.int (287) 0), (.int (0) 0), (.ref 486), (.int (289) 0), (.int (0) 0), (.ref 493), (.int (299) 0), (.int (0) 0), (.ref 500), (.int (306) 0), (.int (0) 0), (.ref 507), (.int (315) 0), (.int (0) 0), (.ref 512), (.int (320) 0), (.int (0) 0), (.ref 519)]), #[]⟩) 307 [oE, oF, (xo 46 "walks_of_one_turn"), o310, o311, oE, oF, (xo 47 "least_to"), o315, o316, oE, oF, (xo 48 "lengthened"), o320, o321, oE, oF, (xo 49 "after_a_turn"), o325, o326, oE, oF, (xo 50 "has_honest"), o330, o331, oE, oF, (ts 598 ["rows", "s", "walks"]), oE, (xo 51 "closed_below_zero"), o337, o338, oE, oF, (xo 52 "ring"), o342, o343, oE, oF, (ts 615 ["grid"]), oE, (xo 54 "refuse_ring"), o349, o350, oE, oF, (ts 622 ["walk", "longer"]), oE, (xo 55 "lesser"), o356, o357, oE, oF, (xo 56 "least_roads"), o361, o362, oE, oF, (xo 58 "greatest"), o366, o367, oE, oF, (xo 60 "dealt_places"), o371, o372, oE, oF, (xo 61 "worths_at"), o376, o377, oE, oF, (xo 62 "grid_of"), o381, o382, oE, oF, (xo 64 "grids_of"), o386, o387, oE, oF, (ts 672 ["k", "others", "grid", "told"]), oE, (xo 65 "paper"), o393, o394, oE, oF, (ts 682 ["house", "table", "papers", "k", "others", "grid", "found"]), oE, (xo 66 "verdict"), o400, o401, oE, oF, (ts 695 ["house", "table", "k", "row", "pays"]), oE, (xo 67 "asked_of"), o407, o408, oE, oF, (xo 68 "asked"), o412, o413, oE, oF, (ts 714 ["script", "k"]), oE, (xo 70 "_law_cell_at"), o419, o420, oE, oF, (xo 71 "_law_pool"), o424, o425, oE, oF, (ts 728 ["script", "k", "many", "cell", "number"]), oE, (xo 72 "_law_drawn"), o431, o432, oE, oF, (ts 739 ["cell"]), oE, (xo 73 "_law_worth"), o438, o439, oE, oF, (xo 74 "_law_parts"), o443, o444, oE, oF, (xo 75 "_law_rows"), o448, o449, oE, oF, (ts 758 ["hands", "row", "weights", "place", "score", "j", "t"]), oE, (xo 76 "_law_score"), o455, o456, oE, oF, (xo 77 "_law_places"), o460, o461, oE, oF, (ts 777 ["outcomes", "places", "table", "row"]), oE, (xo 78 "_law_table"), o467, o468, oE, oF, (xo 79 "_law_grid"), o472, o473, oE, oF, (ts 793 ["grid", "s", "t"]), oE, (xo 80 "_law_turn"), o479, o480, oE, oF, (ts 802 ["found"]), oE, (xo 81 "_law_whole"), o486, o487, oE, oF, (ts 809 ["grid", "pays", "t", "s"]), oE, (xo 82 "_law_honest"), o493, o494, oE, oF, (ts 819 ["house", "table", "row", "kinds", "e"]), oE, (xo 83 "_law_refused"), o500, o501, oE, oF, (ts 830 ["hands", "places", "row", "due", "k", "grid", "pays"]), oE, (xo 84 "_law_due"), o507, o508, oE, oF, (xo 85 "_law_told"), o512, o513, oE, oF, (ts 849 ["script", "outcomes", "hands", "house", "places", "table", "row"]), oE, (xo 86 "law"), o519, o520]
def hf (P : Params) : Heap := absHeap (t3 P) 521 (lf P)
def s0 (w : World) (os : OsState) : SharedT := ⟨t0 w.params, 15, lf w.params, Array.mk [], boot_drawn, 187, os⟩
def s1 (w : World) (os : OsState) : SharedT := ⟨t1 w.params, 100, lf w.params, Array.mk [], boot_drawn, 303, os⟩
def s2 (w : World) (os : OsState) : SharedT := ⟨t2 w.params, 307, lf w.params, Array.mk [], boot_drawn, 565, os⟩
def s3 (w : World) (os : OsState) : SharedT := ⟨t3 w.params, 521, lf w.params, Array.mk [], boot_drawn, 859, os⟩
def l0 : List Stmt := (pr.main.body.drop 0).take 8
def l1 : List Stmt := (pr.main.body.drop 8).take 38
def l2 : List Stmt := (pr.main.body.drop 46).take 41
theorem bs : behindTheImports pr = l0 ++ (l1 ++ (l2 ++ ([]))) := by kernel_rfl
theorem r_pre (w : World) (os : OsState) : topGo treeTable pr w 11 (some (.ref 6)) 12 ⟨boot_heap w.params, Array.mk [], boot_drawn, boot_toks, os⟩ (topStub pr) = some (⟨ha w.params, Array.mk [], boot_drawn, 187, os⟩, ⟨denote treeTable cd, cd, ⟨0, 0, 0, 0⟩, [topFrame qp]⟩) := by kernel_rfl
theorem zgy (w : World) (os : OsState) : segRun treeTable pr w 11 (some (.ref 6)) 1 1 ⟨ha w.params, Array.mk [], boot_drawn, 187, os⟩ (blockOf (behindTheImports pr) env cd ⟨0, 0, 0, 0⟩ [topFrame qp]) = some (.next, (s0 w os).abs, cd, ⟨0, 0, 0, 0⟩) := by kernel_rfl
theorem r0 (w : World) (os : OsState) : segRunT treeTable pr w 11 (some (.ref 6)) 1 1474 (s0 w os) (piecesOf l0 env cd ⟨0, 0, 0, 0⟩ [topFrame qp]) = some (.next, s1 w os, cd, ⟨14, 0, 15, 8⟩) := by
  rw [PySem.W.Fast.te10110043849684766642, PySem.W.Fast.te14364793385576792824]; kernel_rfl
theorem r1 (w : World) (os : OsState) : segRunT treeTable pr w 11 (some (.ref 6)) 1 1486 (s1 w os) (piecesOf l1 env cd ⟨14, 0, 15, 8⟩ [topFrame qp]) = some (.next, s2 w os, cd, ⟨113, 0, 114, 18⟩) := by
  rw [PySem.W.Fast.te10110043849684766642, PySem.W.Fast.te14364793385576792824]; kernel_rfl
theorem r2 (w : World) (os : OsState) : segRunT treeTable pr w 11 (some (.ref 6)) 1 1084 (s2 w os) (piecesOf l2 env cd ⟨113, 0, 114, 18⟩ [topFrame qp]) = some (.next, s3 w os, cd, ⟨320, 0, 333, 15⟩) := by
  rw [PySem.W.Fast.te10110043849684766642, PySem.W.Fast.te14364793385576792824]; kernel_rfl
theorem r_fin (w : World) (os : OsState) : topRun treeTable pr w 11 (some (.ref 6)) 2 (s3 w os).abs ⟨doneF .next, cd, ⟨320, 0, 333, 15⟩, [topFrame qp]⟩ = some ⟨hf w.params, Array.mk [], boot_drawn, 859, os⟩ := by kernel_rfl
theorem r_rest (w : World) (os : OsState) : topRun treeTable pr w 11 (some (.ref 6)) (1474 + (1486 + (1084 + (2)))) (s0 w os).abs (restOf (behindTheImports pr) env cd ⟨0, 0, 0, 0⟩ [topFrame qp]) = some ⟨hf w.params, Array.mk [], boot_drawn, 859, os⟩ := by
  have k := piece_app (segRun_of (r0 w os)) (piece_app (segRun_of (r1 w os)) (piece_app (segRun_of (r2 w os)) (piece_nil (r_fin w os))));exact (congrArg (fun b => topRun treeTable pr w 11 (some (.ref 6)) (1474 + (1486 + (1084 + (2)))) (s0 w os).abs (restOf b env cd ⟨0, 0, 0, 0⟩ [topFrame qp])) bs).trans k
theorem r_all (w : World) (os : OsState) : topRun treeTable pr w 11 (some (.ref 6)) (12 + (1 + (1474 + (1486 + (1084 + (2)))))) ⟨boot_heap w.params, Array.mk [], boot_drawn, boot_toks, os⟩ (topStub pr) = some ⟨hf w.params, Array.mk [], boot_drawn, 859, os⟩ := go_top (r_pre w os) (piece_block (zgy w os) (r_rest w os))
def ks : List Addr := [3, 13, 17, 20, 23, 24, 30, 33, 36, 37, 42, 45, 48, 49, 54, 57, 60, 61, 66, 69, 72, 73, 78, 81, 84, 85, 90, 93, 96, 97, 102, 105, 108, 109, 114, 117, 120, 121, 126, 129, 132, 133, 141, 142, 148, 149, 153, 154, 160, 161, 167, 168, 174, 175, 179, 180, 184, 185, 189, 190, 196, 197, 203, 204, 208, 209, 215, 216, 222, 223, 229, 230, 234, 235, 239, 240, 244, 245, 251, 252, 258, 259, 263, 264, 270, 271, 277, 278, 284, 285, 291, 292, 298, 299, 305, 306, 310, 311, 315, 316, 320, 321, 325, 326, 330, 331, 337, 338, 342, 343, 349, 350, 356, 357, 361, 362, 366, 367, 371, 372, 376, 377, 381, 382, 386, 387, 393, 394, 400, 401, 407, 408, 412, 413, 419, 420, 424, 425, 431, 432, 438, 439, 443, 444, 448, 449, 455, 456, 460, 461, 467, 468, 472, 473, 479, 480, 486, 487, 493, 494, 500, 501, 507, 508, 512, 513, 519, 520]
def K : Params -> Frag := fun P => (nat_lit 3, o3_2 P) :: (nat_lit 13, o13) :: (nat_lit 17, o17 P) :: (nat_lit 20, o20) :: (nat_lit 23, o23 P) :: (nat_lit 24, o24_1) :: (nat_lit 30, o30 P) :: (nat_lit 33, o33) :: (nat_lit 36, o36 P) :: (nat_lit 37, o37) :: (nat_lit 42, o42 P) :: (nat_lit 45, o45) :: (nat_lit 48, o48 P) :: (nat_lit 49, o49) :: (nat_lit 54, o54 P) :: (nat_lit 57, o57) :: (nat_lit 60, o60 P) :: (nat_lit 61, o61) :: (nat_lit 66, o66 P) :: (nat_lit 69, o69) :: (nat_lit 72, o72 P) :: (nat_lit 73, o73) :: (nat_lit 78, o78 P) :: (nat_lit 81, o81) :: (nat_lit 84, o84 P) :: (nat_lit 85, o85) :: (nat_lit 90, o90 P) :: (nat_lit 93, o93) :: (nat_lit 96, o96 P) :: (nat_lit 97, o97) :: (nat_lit 102, o102 P) :: (nat_lit 105, o105) :: (nat_lit 108, o108 P) :: (nat_lit 109, o109) :: (nat_lit 114, o114 P) :: (nat_lit 117, o117) :: (nat_lit 120, o120 P) :: (nat_lit 121, o121) :: (nat_lit 126, o126 P) :: (nat_lit 129, o129) :: (nat_lit 132, o132 P) :: (nat_lit 133, o133) :: (nat_lit 141, o141) :: (nat_lit 142, o142) :: (nat_lit 148, o148) :: (nat_lit 149, o149) :: (nat_lit 153, o153) :: (nat_lit 154, o154) :: (nat_lit 160, o160) :: (nat_lit 161, o161) :: (nat_lit 167, o167) :: (nat_lit 168, o168) :: (nat_lit 174, o174) :: (nat_lit 175, o175) :: (nat_lit 179, o179) :: (nat_lit 180, o180) :: (nat_lit 184, o184) :: (nat_lit 185, o185) :: (nat_lit 189, o189) :: (nat_lit 190, o190) :: (nat_lit 196, o196) :: (nat_lit 197, o197) :: (nat_lit 203, o203) :: (nat_lit 204, o204) :: (nat_lit 208, o208) :: (nat_lit 209, o209) :: (nat_lit 215, o215) :: (nat_lit 216, o216) :: (nat_lit 222, o222) :: (nat_lit 223, o223) :: (nat_lit 229, o229) :: (nat_lit 230, o230) :: (nat_lit 234, o234) :: (nat_lit 235, o235) :: (nat_lit 239, o239) :: (nat_lit 240, o240) :: (nat_lit 244, o244) :: (nat_lit 245, o245) :: (nat_lit 251, o251) :: (nat_lit 252, o252) :: (nat_lit 258, o258) :: (nat_lit 259, o259) :: (nat_lit 263, o263) :: (nat_lit 264, o264) :: (nat_lit 270, o270) :: (nat_lit 271, o271) :: (nat_lit 277, o277) :: (nat_lit 278, o278) :: (nat_lit 284, o284) :: (nat_lit 285, o285) :: (nat_lit 291, o291) :: (nat_lit 292, o292) :: (nat_lit 298, o298) :: (nat_lit 299, o299) :: (nat_lit 305, o305) :: (nat_lit 306, o306) :: (nat_lit 310, o310) :: (nat_lit 311, o311) :: (nat_lit 315, o315) :: (nat_lit 316, o316) :: (nat_lit 320, o320) :: (nat_lit 321, o321) :: (nat_lit 325, o325) :: (nat_lit 326, o326) :: (nat_lit 330, o330) :: (nat_lit 331, o331) :: (nat_lit 337, o337) :: (nat_lit 338, o338) :: (nat_lit 342, o342) :: (nat_lit 343, o343) :: (nat_lit 349, o349) :: (nat_lit 350, o350) :: (nat_lit 356, o356) :: (nat_lit 357, o357) :: (nat_lit 361, o361) :: (nat_lit 362, o362) :: (nat_lit 366, o366) :: (nat_lit 367, o367) :: (nat_lit 371, o371) :: (nat_lit 372, o372) :: (nat_lit 376, o376) :: (nat_lit 377, o377) :: (nat_lit 381, o381) :: (nat_lit 382, o382) :: (nat_lit 386, o386) :: (nat_lit 387, o387) :: (nat_lit 393, o393) :: (nat_lit 394, o394) :: (nat_lit 400, o400) :: (nat_lit 401, o401) :: (nat_lit 407, o407) :: (nat_lit 408, o408) :: (nat_lit 412, o412) :: (nat_lit 413, o413) :: (nat_lit 419, o419) :: (nat_lit 420, o420) :: (nat_lit 424, o424) :: (nat_lit 425, o425) :: (nat_lit 431, o431) :: (nat_lit 432, o432) :: (nat_lit 438, o438) :: (nat_lit 439, o439) :: (nat_lit 443, o443) :: (nat_lit 444, o444) :: (nat_lit 448, o448) :: (nat_lit 449, o449) :: (nat_lit 455, o455) :: (nat_lit 456, o456) :: (nat_lit 460, o460) :: (nat_lit 461, o461) :: (nat_lit 467, o467) :: (nat_lit 468, o468) :: (nat_lit 472, o472) :: (nat_lit 473, o473) :: (nat_lit 479, o479) :: (nat_lit 480, o480) :: (nat_lit 486, o486) :: (nat_lit 487, o487) :: (nat_lit 493, o493) :: (nat_lit 494, o494) :: (nat_lit 500, o500) :: (nat_lit 501, o501) :: (nat_lit 507, o507) :: (nat_lit 508, o508) :: (nat_lit 512, o512) :: (nat_lit 513, o513) :: (nat_lit 519, o519) :: (nat_lit 520, o520) :: []
theorem ke (P : Params) : ks = (K P).map (·.1) := by kernel_rfl
def lo : List Str := pr.main.scope.names.map (·.1)
def vw : Program := { pr with main := { pr.main with body := [Mine.jq] } }
def fs (w : World) (os : OsState) : Shared := ⟨hf w.params, Array.mk [], boot_drawn, 859, os⟩
theorem z_size (w : World) : ((boot_heap w.params).isNs mainGlobals && (Array.mk [] : Array GenState).size == 0, (boot_heap w.params).objs.size, (boot_heap w.params).nsMap mainGlobals "__annotations__") = (true, 11, (some (.ref 6))) := by kernel_rfl
theorem z_one (w : World) (os : OsState) : (staticsOk (importedModules pr.main.body) (boot_heap w.params) (hf w.params) && namesBound pr (hf w.params) && gensDone (fs w os) && laidKept (boot_heap w.params) (hf w.params)) = true := by kernel_rfl
theorem z_two (w : World) (os : OsState) : openSeen vw lo (importedModules pr.main.body) (fun _ => true) true (fs w os) = openGood vw lo := by
  rw [PySem.W.Fast.te4187177175401517315]; kernel_rfl
theorem zgr (w : World) (os : OsState) : (kHook K ks ke).obs (fs w os) = (kHook K ks ke).val w := by kernel_rfl
theorem z_open : opening pr = plainProg pr.main.scope.names := by kernel_rfl
theorem zhc (s : Shared) : fenceModules? pr s = some s := by kernel_rfl
theorem left : LeftO pr vw lo (fun _ => true) (kHook K ks ke).obs (kHook K ks ke).val 1000000 :=
  LeftO.of_pieces (boot_open z_open rfl zhc) z_size r_all rfl fun w => funext fun os => looks_pair (z_one w os) (looks_pair (z_two w os) (zgr w os))
end
end Tp
open PySem PySem.W PyProof.Rows
set_option maxRecDepth 100000 in
set_option maxHeartbeats 0 in
theorem PySem.Challenge.cw_trueword_k40_asked_of_the_hands_holds : PySem.Challenge.rw_trueword_k40_asked_of_the_hands.Holds := by
  refine holds_law (by rw [PySem.W.Fast.te9446332074065402090]; kernel_rfl) fun said => ?_
  refine holds_open (q := Tp.vw) (loose := Tp.lo) (Xt := fun _ => true) (XP := fun _ _ => True) (Yf := (kHook Tp.K Tp.ks Tp.ke).obs) (Ya := (kHook Tp.K Tp.ks Tp.ke).val) (YP := (kHook Tp.K Tp.ks Tp.ke).says) (N := 1000000) Tp.left (kHook Tp.K Tp.ks Tp.ke).of (kHook Tp.K Tp.ks Tp.ke).keeps (fun _ _ => trivial) (fun _ _ _ _ _ => trivial) (by rfl) (by rfl) (by rfl) (fun _ _ => recFacts_nil rfl) (by rfl) said (by decide +kernel) ⟨rfl, rfl, rfl, rfl, rfl, by decide +kernel⟩ ?hw ?hc
  case hw => w_witness2
  k_fill
  refine L2.zgl (l := PySem.Challenge.rw_trueword_k40_asked_of_the_hands) (n := 63) (k := 11) (x := "script") (CX := L2.CX0) (sp := Mine.zdc) rfl (by decide) rfl ⟨rfl, by decide, by decide⟩ (fun w h Y => PySem.W.kIn_of Y) ?F ?S ?C
  case F =>
    intro w mg fa h KX G hmg
    have N : mg "ValueError" = none /\ mg "abs" = none /\ mg "all" = none /\ mg "bool" = none /\ mg "enumerate" = none /\ mg "int" = none /\ mg "isinstance" = none /\ mg "len" = none /\ mg "list" = none /\ mg "max" = none /\ mg "min" = none /\ mg "range" = none /\ mg "set" = none /\ mg "str" = none /\ mg "tuple" = none /\ mg "zip" = none /\ True := by
      refine ⟨?_, ?_, ?_, ?_, ?_, ?_, ?_, ?_, ?_, ?_, ?_, ?_, ?_, ?_, ?_, ?_, trivial⟩ <;> (refine' PySem.W.mg_none_of KX G ?a; (case a => k_is))
    obtain ⟨n_ValueError, n_abs, n_all, n_bool, n_enumerate, n_int, n_isinstance, n_len, n_list, n_max, n_min, n_range, n_set, n_str, n_tuple, n_zip, -⟩ := N;have k0_MOST_WORDS := PySem.W.mg_of (n := "MOST_WORDS") KX G (by k_is);have k_MOST_WORDS : ∃ t, mg "MOST_WORDS" = some (Value.int 8 t) := ⟨_, k0_MOST_WORDS⟩;have k0_MOST_LETTERS := PySem.W.mg_of (n := "MOST_LETTERS") KX G (by k_is);have k_MOST_LETTERS : ∃ t, mg "MOST_LETTERS" = some (Value.int 8 t) := ⟨_, k0_MOST_LETTERS⟩;have k0_MOST_OUTCOMES := PySem.W.mg_of (n := "MOST_OUTCOMES") KX G (by k_is);have k_MOST_OUTCOMES : ∃ t, mg "MOST_OUTCOMES" = some (Value.int 8 t) := ⟨_, k0_MOST_OUTCOMES⟩;have k0_MOST_HANDS := PySem.W.mg_of (n := "MOST_HANDS") KX G (by k_is);have k_MOST_HANDS : ∃ t, mg "MOST_HANDS" = some (Value.int 4 t) := ⟨_, k0_MOST_HANDS⟩;have k0_MOST_ROWS := PySem.W.mg_of (n := "MOST_ROWS") KX G (by k_is);have k_MOST_ROWS : ∃ t, mg "MOST_ROWS" = some (Value.int 256 t) := ⟨_, k0_MOST_ROWS⟩;have B : Mine.Bt mg := ⟨n_ValueError, n_abs, n_all, n_bool, n_enumerate, n_int, n_isinstance, n_len, n_list, n_max, n_min, n_range, n_set, n_str, n_tuple, n_zip, k_MOST_WORDS, k_MOST_LETTERS, k_MOST_OUTCOMES, k_MOST_HANDS, k_MOST_ROWS⟩;have z_NoHouse := L2.bj (name := "NoHouse") KX G (by k_is) (by k_exc) (by k_is) (by k_is) (by k_is);have z_NoPays := L2.bj (name := "NoPays") KX G (by k_is) (by k_exc) (by k_is) (by k_is) (by k_is);have z_TrueError := L2.bj (name := "TrueError") KX G (by k_is) (by k_exc) (by k_is) (by k_is) (by k_is);have z_NoWord := PySem.W.mg_of (n := "NoWord") KX G (by k_is);have z_NoWeight := PySem.W.mg_of (n := "NoWeight") KX G (by k_is);have z_NoStand := PySem.W.mg_of (n := "NoStand") KX G (by k_is);have z_NoShare := PySem.W.mg_of (n := "NoShare") KX G (by k_is);have z_NoRule := PySem.W.mg_of (n := "NoRule") KX G (by k_is);have z_NoRow := PySem.W.mg_of (n := "NoRow") KX G (by k_is);have z_NoMenu := PySem.W.mg_of (n := "NoMenu") KX G (by k_is);have C := Mine.Ct.mk (mg := mg) (a := ⟨_, _, _, _, _, _, _, _, _, _⟩) (z_NoHouse.1) (z_NoHouse.2) (z_NoPays.1) (z_NoPays.2) (L2.zgs (by k_is)) (z_TrueError.1) (z_TrueError.2) (z_NoWord) (z_NoWeight) (z_NoStand) (z_NoShare) (z_NoRule) (z_NoRow) (z_NoMenu) (L2.u6 (by decide) (by k_is) (by k_is) (by k_is)) (by k_is) (L2.zf7) (by k_is) (L2.u6 (by decide) (by k_is) (by k_is) (by k_is)) (L2.u6 (by decide) (by k_is) (by k_is) (by k_is)) (L2.u6 (by decide) (by k_is) (by k_is) (by k_is)) (L2.u6 (by decide) (by k_is) (by k_is) (by k_is)) (L2.u6 (by decide) (by k_is) (by k_is) (by k_is)) (L2.u6 (by decide) (by k_is) (by k_is) (by k_is)) (L2.u6 (by decide) (by k_is) (by k_is) (by k_is)) (L2.u6 (by decide) (by k_is) (by k_is) (by k_is))
    have D : L2.zf (L2.KOf KX) mg "is_whole" Mine.pz ["thing"] /\ L2.zf (L2.KOf KX) mg "is_bounded" Mine.u1 ["thing"] /\ L2.zf (L2.KOf KX) mg "is_grid_row" Mine.uf ["thing", "width"] /\ L2.zf (L2.KOf KX) mg "turn" Mine.i0 ["grid", "s", "t"] /\ L2.zf (L2.KOf KX) mg "gain" Mine.gk ["grid", "pays", "t", "s"] /\ L2.zf (L2.KOf KX) mg "first_gain" Mine.uv ["grid", "pays"] /\ L2.zf (L2.KOf KX) mg "is_name" Mine.mh ["thing"] /\ L2.zf (L2.KOf KX) mg "are_names" Mine.ra ["thing", "most"] /\ L2.zf (L2.KOf KX) mg "are_worths" Mine.u0 ["thing", "height", "width"] /\ L2.zf (L2.KOf KX) mg "is_hand" Mine.me ["thing", "width"] /\ L2.zf (L2.KOf KX) mg "name_of" Mine.ny ["hand"] /\ L2.zf (L2.KOf KX) mg "names_of" Mine.pj ["hands"] /\ L2.zf (L2.KOf KX) mg "words_of_hand" Mine.wc ["hand"] /\ L2.zf (L2.KOf KX) mg "worths_of_hand" Mine.xx ["hand"] /\ L2.zf (L2.KOf KX) mg "count_of_rows" Mine.vf ["hands"] /\ L2.zf (L2.KOf KX) mg "makes_house" Mine.ug ["outcomes", "hands"] /\ L2.zf (L2.KOf KX) mg "kept_hand" Mine.sy ["hand"] /\ L2.zf (L2.KOf KX) mg "house_of" Mine.pp ["outcomes", "hands"] /\ L2.zf (L2.KOf KX) mg "outcomes_of" Mine.ui ["house"] /\ L2.zf (L2.KOf KX) mg "hands_of" Mine.qr ["house"] /\ L2.zf (L2.KOf KX) mg "with_each" Mine.sw ["rows", "words"] /\ L2.zf (L2.KOf KX) mg "rows_over" Mine.rj ["hands"] /\ L2.zf (L2.KOf KX) mg "without" Mine.nt ["things", "k"] /\ L2.zf (L2.KOf KX) mg "others_of" Mine.sv ["house", "k"] /\ L2.zf (L2.KOf KX) mg "row_with" Mine.qv ["others", "k", "word"] /\ L2.zf (L2.KOf KX) mg "total_of" Mine.pw ["walk"] /\ L2.zf (L2.KOf KX) mg "words_of" Mine.pi ["walk"] /\ L2.zf (L2.KOf KX) mg "walks_of_one_turn" Mine.x6 ["grid", "s"] /\ L2.zf (L2.KOf KX) mg "least_to" Mine.uy ["grid", "walks", "t"] /\ L2.zf (L2.KOf KX) mg "lengthened" Mine.vj ["grid", "walks"] /\ L2.zf (L2.KOf KX) mg "after_a_turn" Mine.vx ["grid", "totals", "t"] /\ L2.zf (L2.KOf KX) mg "has_honest" Mine.ux ["grid"] /\ L2.zf (L2.KOf KX) mg "closed_below_zero" Mine.x0 ["rows"] /\ L2.zf (L2.KOf KX) mg "ring" Mine.gf ["grid"] /\ L2.zf (L2.KOf KX) mg "refuse_ring" Mine.ue ["grid"] /\ L2.zf (L2.KOf KX) mg "lesser" Mine.l6 ["walk", "longer"] /\ L2.zf (L2.KOf KX) mg "least_roads" Mine.uj ["grid", "walks"] /\ L2.zf (L2.KOf KX) mg "greatest" Mine.qt ["grid"] /\ L2.zf (L2.KOf KX) mg "dealt_places" Mine.vz ["house", "table", "k", "others"] /\ L2.zf (L2.KOf KX) mg "worths_at" Mine.rh ["worths", "places"] /\ L2.zf (L2.KOf KX) mg "grid_of" Mine.nq ["house", "table", "k", "others"] /\ L2.zf (L2.KOf KX) mg "grids_of" Mine.qy ["house", "table"] /\ L2.zf (L2.KOf KX) mg "paper" Mine.jp ["k", "others", "grid"] /\ L2.zf (L2.KOf KX) mg "verdict" Mine.nk ["house", "table"] /\ L2.zf (L2.KOf KX) mg "asked_of" Mine.qz ["house", "table", "k", "row"] /\ L2.zf (L2.KOf KX) mg "asked" Mine.jz ["house", "table", "row"] /\ L2.zf (L2.KOf KX) mg "_law_cell_at" Mine.uh ["script", "k"] /\ L2.zf (L2.KOf KX) mg "_law_pool" Mine.yd ["cell", "many"] /\ L2.zf (L2.KOf KX) mg "_law_drawn" Mine.re ["script", "k"] /\ L2.zf (L2.KOf KX) mg "_law_worth" Mine.so ["cell"] /\ L2.zf (L2.KOf KX) mg "_law_parts" Mine.rf ["script", "tops"] /\ L2.zf (L2.KOf KX) mg "_law_rows" Mine.qw ["hands"] /\ L2.zf (L2.KOf KX) mg "_law_score" Mine.su ["hands", "row", "weights", "place"] /\ L2.zf (L2.KOf KX) mg "_law_places" Mine.u8 ["script", "outcomes", "hands"] /\ L2.zf (L2.KOf KX) mg "_law_table" Mine.sr ["outcomes", "places"] /\ L2.zf (L2.KOf KX) mg "_law_grid" Mine.p0 ["hands", "places", "k", "others"] /\ L2.zf (L2.KOf KX) mg "_law_turn" Mine.qx ["grid", "s", "t"] /\ L2.zf (L2.KOf KX) mg "_law_whole" Mine.sm ["found"] /\ L2.zf (L2.KOf KX) mg "_law_honest" Mine.u5 ["grid", "pays"] /\ L2.zf (L2.KOf KX) mg "_law_refused" Mine.ud ["house", "table", "row"] /\ L2.zf (L2.KOf KX) mg "_law_due" Mine.nv ["hands", "places", "row"] /\ L2.zf (L2.KOf KX) mg "_law_told" Mine.q8 ["house", "table", "hands", "places", "row"] /\ L2.zf (L2.KOf KX) mg "law" Mine.jq ["script"] /\ True := by
      refine ⟨?_, ?_, ?_, ?_, ?_, ?_, ?_, ?_, ?_, ?_, ?_, ?_, ?_, ?_, ?_, ?_, ?_, ?_, ?_, ?_, ?_, ?_, ?_, ?_, ?_, ?_, ?_, ?_, ?_, ?_, ?_, ?_, ?_, ?_, ?_, ?_, ?_, ?_, ?_, ?_, ?_, ?_, ?_, ?_, ?_, ?_, ?_, ?_, ?_, ?_, ?_, ?_, ?_, ?_, ?_, ?_, ?_, ?_, ?_, ?_, ?_, ?_, ?_, trivial⟩ <;> (dsimp only [L2.KOf]; refine' L2.def_mk KX G ?a ?l ?c ?k ?h; (case a => k_is); (case l => k_is); (case c => k_is); (case k => k_is); (case h => first | exact (fun _ _ _ _ _ _ us hl => match us, hl with | [_], _ => rfl) | exact (fun _ _ _ _ _ _ us hl => match us, hl with | [_, _], _ => rfl) | exact (fun _ _ _ _ _ _ us hl => match us, hl with | [_, _, _], _ => rfl) | exact (fun _ _ _ _ _ _ us hl => match us, hl with | [_, _, _, _], _ => rfl) | exact (fun _ _ _ _ _ _ us hl => match us, hl with | [_, _, _, _, _], _ => rfl)))
    obtain ⟨d_is_whole, d_is_bounded, d_is_grid_row, d_turn, d_gain, d_first_gain, d_is_name, d_are_names, d_are_worths, d_is_hand, d_name_of, d_names_of, d_words_of_hand, d_worths_of_hand, d_count_of_rows, d_makes_house, d_kept_hand, d_house_of, d_outcomes_of, d_hands_of, d_with_each, d_rows_over, d_without, d_others_of, d_row_with, d_total_of, d_words_of, d_walks_of_one_turn, d_least_to, d_lengthened, d_after_a_turn, d_has_honest, d_closed_below_zero, d_ring, d_refuse_ring, d_lesser, d_least_roads, d_greatest, d_dealt_places, d_worths_at, d_grid_of, d_grids_of, d_paper, d_verdict, d_asked_of, d_asked, d_law_cell_at, d_law_pool, d_law_drawn, d_law_worth, d_law_parts, d_law_rows, d_law_score, d_law_places, d_law_table, d_law_grid, d_law_turn, d_law_whole, d_law_honest, d_law_refused, d_law_due, d_law_told, d_law, -⟩ := D;obtain ⟨f, fd, e1, F1, b1⟩ := d_law.ex;have e2 := hmg.symm.trans e1;cases e2;refine ⟨fd, fun s u => ?_, fun base kb nb => ?_⟩
    . exact Mine.zfe F1 s u
    . exact Mine.law_ok B C d_is_whole d_is_bounded d_is_grid_row d_turn d_gain d_first_gain d_is_name d_are_names d_are_worths d_is_hand d_name_of d_names_of d_words_of_hand d_worths_of_hand d_count_of_rows d_makes_house d_kept_hand d_house_of d_outcomes_of d_hands_of d_with_each d_rows_over d_without d_others_of d_row_with d_total_of d_words_of d_walks_of_one_turn d_least_to d_lengthened d_after_a_turn d_has_honest d_closed_below_zero d_ring d_refuse_ring d_lesser d_least_roads d_greatest d_dealt_places d_worths_at d_grid_of d_grids_of d_paper d_verdict d_asked_of d_asked d_law_cell_at d_law_pool d_law_drawn d_law_worth d_law_parts d_law_rows d_law_score d_law_places d_law_table d_law_grid d_law_turn d_law_whole d_law_honest d_law_refused d_law_due d_law_told base F1
  case S => exact fun K H a ns hl hO hS => ⟨a, ns, rfl, hS, hl, fun _ => rfl⟩
  case C => exact fun _ _ _ _ z => z
#print axioms PySem.Challenge.cw_trueword_k40_asked_of_the_hands_holds

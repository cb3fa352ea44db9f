import PyProof.Rows.All
import Wide.All
import OpenK.AllK
import Wide.FinOn
import Lean
import PyProof.EqAt
import PyProof.EqKinds
import PyProof.TupleCall
import PySem.Challenge.RW_trueword_k72_houses_and_best_said
abbrev Fg:=PySem.W.Frag
abbrev Za:=@List.length_map
abbrev Zb:=@List.getElem?_eq_getElem
abbrev Zc:=@List.getElem?_eq_some_iff
abbrev Zd:=@Nat.le_trans
abbrev Ze:=@List.getElem?_map
abbrev Zf:=@List.getElem?_append_right
abbrev Zg:=@List.getElem?_append_left
abbrev Zh:=@Nat.lt_of_lt_of_le
abbrev Zi:=@List.mem_of_getElem?
abbrev Zj:=@List.length_take
abbrev Zk:=@List.getD_eq_getElem?_getD
abbrev Zl:=@List.getElem_mem
abbrev Zm:=@Nat.le_refl
abbrev Zn:=@List.map_append
abbrev Zo:=@List.length_append
abbrev Zp:=@List.mem_map
abbrev Zq:=@List.take_add_one
abbrev Zr:=@List.size_toArray
abbrev Zs:=@Nat.ne_of_lt
abbrev Zt:=@List.take_length
abbrev Zu:=@List.mem_append_right
abbrev Zv:=@List.mem_cons_of_mem
abbrev Zw:=@Int.toNat_natCast
abbrev Zx:=@List.not_mem_nil
abbrev Zy:=@List.getElem_of_mem
abbrev Zz:=@List.idxOf_lt_length_iff
abbrev ZA:=@List.mem_cons_self
abbrev ZB:=@Nat.min_le_right
abbrev ZC:=@List.mem_singleton
abbrev ZD:=@Nat.not_lt
abbrev ZE:=@Nat.zero_le
abbrev ZF:=@List.lookup_cons
abbrev ZG:=@List.take_of_length_le
abbrev ZH:=@List.mem_append
abbrev ZI:=@List.length_replicate
abbrev ZJ:=@Nat.lt_irrefl
abbrev ZK:=@List.mem_cons
abbrev ZL:=@List.length_cons
abbrev ZM:=@List.map_cons
abbrev ZN:=@List.nil_append
abbrev ZO:=@List.cons_append
abbrev ZP:=@List.append_nil
abbrev ZQ:=@List.getElem?_drop
abbrev ZR:=@List.length_drop
abbrev ZS:=@List.all_eq_true
abbrev ZT:=@List.mem_range
abbrev ZU:=@List.mem_filterMap
abbrev ZV:=@List.append_assoc
abbrev ZW:=@Array.getElem?_eq_some_iff
abbrev ZX:=@Array.toList_inj
abbrev ZY:=@List.length_range
abbrev ZZ:=@List.length_eq_zero_iff
abbrev Yb:=@Nat.ne_of_gt
abbrev Yc:=@List.nodup_cons
abbrev Yd:=@List.length_singleton
abbrev Ye:=@List.find?_cons
abbrev Yg:=@List.mem_append_left
abbrev Yh:=@List.drop_zero
abbrev Yi:=@List.map_nil
abbrev Yj:=@Array.length_toList
abbrev Yk:=@Nat.add_le_add_left
abbrev Yl:=@List.getElem?_replicate
abbrev Ym:=@Nat.toDigits_of_lt_base
abbrev Yn:=@Nat.lt_of_le_of_lt
abbrev Yo:=@List.getElem?_set_self
abbrev Yp:=@List.cons_lt_cons_iff
abbrev Yq:=@List.getElem?_set_ne
abbrev Yr:=@Nat.lt_succ_self
abbrev Ys:=@List.filterMap_cons
abbrev Yt:=@Int.toNat_of_nonneg
abbrev Yu:=@Array.toList_append
abbrev Yv:=@List.length_zipWith
abbrev Yw:=@List.length_nil
abbrev Yx:=@List.drop_eq_getElem_cons
abbrev Yy:=@List.getElem?_take_of_lt
abbrev Yz:=@List.map_map
abbrev YA:=@Nat.lt_succ_of_lt
abbrev YB:=@Nat.succ_le_succ
abbrev YC:=@List.of_mem_zip
abbrev YD:=@Option.map_some
abbrev YE:=@Nat.not_lt_zero
abbrev YF:=@Nat.sub_self
abbrev YG:=@List.replicate_succ
abbrev YH:=@List.length_reverse
abbrev YI:=@List.take_zero
abbrev YJ:=@List.drop_left
abbrev YK:=@List.take_left
abbrev YL:=@Nat.toDigits_append_toDigits
abbrev YM:=@Nat.mul_le_mul
abbrev YN:=@Nat.le_succ
abbrev YO:=@List.contains_cons
abbrev YQ:=@Int.emod_lt_of_pos
abbrev YR:=@List.set_cons_zero
abbrev YS:=@List.getElem_idxOf
abbrev YT:=@List.all_cons
abbrev YU:=@List.take_sublist
abbrev YV:=@List.pairwise_map
abbrev YW:=@Nat.le_of_lt
abbrev YX:=@List.getElem_inj
abbrev YY:=@Nat.le_of_eq
abbrev YZ:=@Nat.min_self
abbrev Xa:=@List.mem_flatten
abbrev Xb:=@List.foldl_cons
-- CHANGE: your row's module here,as the last of these rows
set_option Elab.async false
set_option maxHeartbeats 8000000
set_option linter.all false
set_option maxRecDepth 100000
namespace L2
open PySem PySem.Spec PyProof.Rows
abbrev Key:=Sum Int Str
def g0:Key->Value->Bool
  | .inl k,v=>Value.isInt k v
  | .inr x,v=>Value.isStrOf x v
def keyH(w:World):Key->Int
  | .inl k=>hashInt k
  | .inr x=>hashStr w x
theorem wc:∀{k:Key} {v:Value},g0 k v=true->(∃i t,k=Sum.inl i/\v=Value.int i t)\/(∃x t,k=Sum.inr x/\v=Value.str x t)
  | .inl i,v,h=>by
    obtain⟨t,e⟩:=Value.isInt_shape (k:=i) (v:=v) h;exact .inl ⟨i,t,rfl,e⟩
  | .inr x,v,h=>by
    obtain⟨t,e⟩:=Value.isStrOf_shape (x:=x) (v:=v) h;exact .inr ⟨x,t,rfl,e⟩
theorem zht(i:Int)(t:Tok):g0 (.inl i) (.int i t)=true:=by simp[g0,Value.isInt]
theorem zh2(x:Str)(t:Tok):g0 (.inr x) (.str x t)=true:=by simp[g0,Value.isStrOf]
theorem key_ll(a b:Int):decide ((Sum.inl a:Key)=Sum.inl b)=(a==b):=by
  by_cases e:a=b
  . subst e;simp
  . have h:¬(Sum.inl a:Key)=Sum.inl b:=fun q=>e (Sum.inl.inj q)
    rw[decide_eq_false h];exact(beq_eq_false_iff_ne.mpr e).symm
theorem zij(a b:Str):decide ((Sum.inr a:Key)=Sum.inr b)=decide (a=b):=by
  by_cases e:a=b
  . subst e;simp
  . have h:¬(Sum.inr a:Key)=Sum.inr b:=fun q=>e (Sum.inr.inj q)
    rw[decide_eq_false h,decide_eq_false e]
theorem key_lr(a:Int)(b:Str):decide ((Sum.inl a:Key)=Sum.inr b)=false:=decide_eq_false (fun q=>nomatch q)
theorem key_rl(a:Str)(b:Int):decide ((Sum.inr a:Key)=Sum.inl b)=false:=decide_eq_false (fun q=>nomatch q)
def wk(prog:Program)(w:World):PySem.KeyKind prog w Key where
  is:=g0
  hash:=keyH w
  inj:=fun v a b ha hb=>by
    rcases wc ha with ⟨i,t,rfl,rfl⟩ | ⟨x,t,rfl,rfl⟩
    . rcases wc hb with ⟨j,u,rfl,e⟩ | ⟨y,u,rfl,e⟩
      . injection e with e1 _;rw[e1]
      . exact nomatch e
    . rcases wc hb with ⟨j,u,rfl,e⟩ | ⟨y,u,rfl,e⟩
      . exact nomatch e
      . injection e with e1 _;rw[e1]
  byValue:=fun k v h=>by
    rcases wc h with ⟨i,t,rfl,rfl⟩ | ⟨x,t,rfl,rfl⟩ <;> rfl
  pyHash:=fun hv h=>by
    rcases wc hv with ⟨i,t,rfl,rfl⟩ | ⟨x,t,rfl,rfl⟩
    . exact wpAny_pyHash_int h
    . exact wpAny_pyHash_str h
  eqBool:=fun hu hv h=>by
    rcases wc hu with ⟨i,t,rfl,rfl⟩ | ⟨x,t,rfl,rfl⟩
    . rcases wc hv with ⟨j,u,rfl,rfl⟩ | ⟨y,u,rfl,rfl⟩
      . rw[key_ll]at h;exact wpAny_eqBool_int h
      . rw[key_lr]at h;exact SeqAt.EqAt.int_str i t y u _ _ _ _ h
    . rcases wc hv with ⟨j,u,rfl,rfl⟩ | ⟨y,u,rfl,rfl⟩
      . rw[key_rl]at h;exact SeqAt.EqAt.str_int x t j u _ _ _ _ h
      . rw[zij]at h;exact wpAny_eqBool_str h
  «strs» := fun k x t v h=>by
    rcases wc h with ⟨i,u,rfl,e⟩ | ⟨y,u,rfl,e⟩
    . exact nomatch e
    . injection e with e1 _
      subst e1;cases v <;> rfl
theorem zeh(prog:Program)(w:World)(i:Int)(t:Tok):(wk prog w).is (.inl i) (.int i t)=true:=zht i t
theorem ky(prog:Program)(w:World)(x:Str)(t:Tok):(wk prog w).is (.inr x) (.str x t)=true:=zh2 x t
end L2
namespace L2
open PySem PySem.Spec PyProof.Rows
inductive V where
  | non | bl (b:Bool) | int (i:Int) | str (x:Str) | byt (b:Array UInt8) | flt (b:UInt64) | ref (a:Addr) | ty (n:String)
  deriving DecidableEq
def RelV:V->Value->Prop
  | .non,u=>u=Value.none
  | .bl b,u=>u=Value.bool b
  | .int i,u=>∃t,u=Value.int i t
  | .str x,u=>∃t,u=Value.str x t
  | .byt b,u=>∃t,u=Value.bytes b t
  | .flt b,u=>∃t,u=Value.float b t
  | .ref a,u=>u=Value.ref a
  | .ty n,u=>u=Value.type n
abbrev Vals:List V->List Value->Prop:=Paired RelV
theorem Vals.length{xs:List V}{us:List Value}(r:Vals xs us):xs.length=us.length:=Paired.length r
theorem Vals.get:∀{xs:List V} {us:List Value} {i:Nat} {x:V},Vals xs us->xs[i]? = some x->∃u,us[i]? = some u/\RelV x u
  | _,_,_,_,.nil,e=>by simp at e
  | _,_,0,_,.cons r _,e=>by simp at e;subst e;exact⟨_,rfl,r⟩
  | _,_,i+1,x,.cons _ t,e=>by
    obtain⟨u,h1,h2⟩:=Vals.get (i:=i) (x:=x) t (by simpa using e);exact⟨u,by simpa using h1,h2⟩
theorem Vals.set{x:V}{u:Value}(r:RelV x u):∀{xs:List V} {us:List Value} (i:Nat),Vals xs us->Vals (xs.set i x) (us.set i u)
  | _,_,_,.nil=>.nil
  | _,_,0,.cons _ t=>.cons r t
  | _,_,i+1,.cons q t=>.cons q (Vals.set r i t)
theorem Vals.append:∀{xs ys:List V} {us ws:List Value},Vals xs us->Vals ys ws->Vals (xs++ys) (us++ws)
  | _,_,_,_,.nil,s=>s
  | _,_,_,_,.cons r t,s=>.cons r (Vals.append t s)
theorem Vals.take:∀{xs:List V} {us:List Value} (n:Nat),Vals xs us->Vals (xs.take n) (us.take n)
  | _,_,0,_=>.nil
  | _,_,_+1,.nil=>.nil
  | _,_,n+1,.cons r t=>.cons r (Vals.take n t)
theorem Vals.drop:∀{xs:List V} {us:List Value} (n:Nat),Vals xs us->Vals (xs.drop n) (us.drop n)
  | _,_,0,r=>r
  | _,_,_+1,.nil=>.nil
  | _,_,n+1,.cons _ t=>Vals.drop n t
def RelO:Option V->Option Value->Prop
  | some v,some u=>RelV v u
  | none,none=>True
  | _,_=>False
def KV{κ:Type}:List (κ×V)->List (κ×Value)->Prop:=Paired fun(p:κ×V) (q:κ×Value)=>p.1=q.1/\RelV p.2 q.2
def kV:Key->V
  | .inl i=>.int i
  | .inr x=>.str x
inductive HO where
    | lst (xs:List V)
    | tup (xs:List V)
    | dK (kvs:List (Key×V)) | dT (kvs:List (List Key×V))
    | set (S:Int->Bool) (n:Nat)
    | ins (C dx:Addr) (fs:List (Str×V))
    | own (x:Addr)
    | xd (fs:List (Str×V))
    | met (f x:Addr)
    | rng (lo hi:Int)
    | frz (o:Obj) (u:HO)
    | tbl (ps:Array Value)
    | ext (φ:Heap->Prop)
abbrev Hp:=Addr->Option HO
def upd(H:Hp)(a:Addr)(o:HO):Hp:=fun b=>if b=a then some o else H b
theorem zn{H:Hp}{a:Addr}{o:HO}:upd H a o a=some o:=by unfold upd;rw[if_pos rfl]
theorem z8{H:Hp}{a b:Addr}{o:HO}(h:b≠a):upd H a o b=H b:=by unfold upd;rw[if_neg h]
theorem w5{H:Hp}{a b:Addr}{o:HO}(h:H a=some o)(h':H b=none):a≠b:=by
  intro e;subst e;rw[h]at h';cases h'
def IsTupD(h:Heap)(a:Addr)(items:Array Value):Prop:=∃o,h.get? a=some o/\o.cls=.type "tuple" /\ ∃n,o.data=.seq items n/\o.dict=none
theorem IsTupD.tup{h:Heap}{a:Addr}{items:Array Value}(q:IsTupD h a items):IsTup h a items:=by
  obtain⟨o,e,c,n,d,_⟩:=q;exact⟨o,e,c,n,d⟩
theorem IsTupD.new(h:Heap)(items:Array Value):IsTupD (h.push { cls:=.type "tuple", data:=.seq items }) h.objs.size items:=⟨_,Heap.get?_push_size _ rfl,rfl,_,rfl,rfl⟩
section
variable(P:Program)(w:World)
def ObjOk(H:Hp)(h:Heap)(a:Addr):HO->Prop
  | .lst xs=>xs.length<=sizeLine/\∃(its:List Value) (n:Nat),Vals xs its/\h.get? a=some { cls:=.type "list", data:=.seq its.toArray n }
  | .tup xs=>xs.length<=sizeLine/\∃its:List Value,Vals xs its/\IsTupD h a its.toArray
  | .dK kvs=>kvs.length<=sizeLine/\(a==sysModules)=false/\∃vs,KV kvs vs/\h.DictOf (wk P w) a vs
  | .dT kvs=>kvs.length<=sizeLine/\(a==sysModules)=false/\∃xs:List (List Key×Addr×Value),
      Paired (fun(p:List Key×V) (q:List Key×Addr×Value)=>p.1=q.1/\H q.2.1=some (.tup (p.1.map kV))/\RelV p.2 q.2.2) kvs xs /\
      ∃o es ep,h.get? a=some o/\o.ExactDict/\o.data=.dict es ep/\es.toList=xs.map (entryOfKey (tupleKind (wk P w)))/\(xs.map (·.1)).Nodup
  | .set S n=>h.SetOf (intKind P w) a S n
  | .ins C dx fs=>H dx=some (.own a)/\fs.length<=1000/\dx≠a/\h.get? a=some (PySem.W.instObj C dx) /\
      ∃mA,h.Ns1 dx mA/\(∀f,RelO (fs.lookup f) (mA f))/\PySem.Within mA (fs.map (·.1))
  | .own _=>∃o,h.get? a=some o
  | .xd fs=>∃mA,h.Ns1 a mA/\∀f,RelO (fs.lookup f) (mA f)
  | .rng lo hi=>∃t u v,h.get? a=some { cls:=.type "range", data:=.fields #[.int lo t,.int hi u,.int 1 v] }
  | .frz o u=>h.get? a=some o/\ObjOk H h a u
  | .tbl ps=>h.get? a=some { cls:=.none,data:=.fields ps }
  | .met f x=>h.get? a=some (PySem.W.methodObj (.ref f) (.ref x))
  | .ext φ=>φ h/\(∃o,h.get? a=some o)/\∀h1 h2:Heap,φ h1->(∀o,h1.get? a=some o->h2.get? a=some o)->φ h2
def HOk(H:Hp)(h:Heap):Prop:=∀a o,H a=some o->ObjOk P w H h a o
end
section
variable{P:Program}{w:World}{H H':Hp}{h h':Heap}{a:Addr}{o:HO}
theorem ObjOk.lt(x:ObjOk P w H h a o):a<h.objs.size:=by
  cases o with
  | lst xs=>obtain⟨_,_,_,_,e⟩:=x;exact Heap.lt_size e
  | tup xs=>obtain⟨_,_,_,p⟩:=x;exact p.tup.lt
  | dK kvs=>obtain⟨_,_,_,_,o,_,_,e,_⟩:=x;exact Heap.lt_size e
  | dT kvs=>obtain⟨_,_,_,_,o,_,_,e,_⟩:=x;exact Heap.lt_size e
  | set S n=>obtain⟨o,_,_,_,e,_⟩:=x;exact Heap.lt_size e
  | ins C dx fs=>obtain⟨_,_,_,e,_⟩:=x;exact Heap.lt_size e
  | own y=>obtain⟨_,e⟩:=x;exact Heap.lt_size e
  | xd fs=>obtain⟨_,⟨_,_,_,e,_⟩,_⟩:=x;exact Heap.lt_size e
  | rng lo hi=>obtain⟨_,_,_,e⟩:=x;exact Heap.lt_size e
  | frz ob u=>obtain⟨e,_⟩:=x;exact Heap.lt_size e
  | tbl ps=>exact Heap.lt_size (show h.get? a=some _ from x)
  | met f y=>exact Heap.lt_size (show h.get? a=some _ from x)
  | ext φ=>obtain⟨_,⟨_,e⟩,_⟩:=x;exact Heap.lt_size e
theorem Paired.mapP{α β:Type}{F G:α->β->Prop}:∀{l₁:List α} {l₂:List β},Paired F l₁ l₂->(∀a b,F a b->G a b)->Paired G l₁ l₂
  | _,_,.nil,_=>.nil
  | _,_,.cons r t,f=>.cons (f _ _ r) (Paired.mapP t f)
theorem ObjOk.stay(x:ObjOk P w H h a o)(k:∀b u,(b=a\/H b=some (.own a))->h.get? b=some u->h'.get? b=some u)
    (ho:∀b,H b=some (.own a)->H' b=some (.own a)) (ht:∀b xs,H b=some (.tup xs)->H' b=some (.tup xs)):ObjOk P w H' h' a o:=by
  induction o with
  | lst xs=>obtain⟨z,its,n,r,e⟩:=x;exact⟨z,its,n,r,k _ _ (.inl rfl) e⟩
  | tup xs=>obtain⟨z,its,r,ob,e,c⟩:=x;exact⟨z,its,r,ob,k _ _ (.inl rfl) e,c⟩
  | dK kvs=>obtain⟨z,y,vs,r,ob,es,ep,e,c⟩:=x;exact⟨z,y,vs,r,ob,es,ep,k _ _ (.inl rfl) e,c⟩
  | dT kvs =>
    obtain⟨z,y,xs,r,ob,es,ep,e,c⟩:=x;exact⟨z,y,xs,Paired.mapP r fun p q z=>⟨z.1,ht _ _ z.2.1,z.2.2⟩,ob,es,ep,k _ _ (.inl rfl) e,c⟩
  | set S n=>obtain⟨ob,es,ep,t,e,c⟩:=x;exact⟨ob,es,ep,t,k _ _ (.inl rfl) e,c⟩
  | ins C dx fs =>
    obtain⟨d,z,ne,e,mA,⟨od,es,ep,e2,c⟩,r⟩:=x;exact⟨ho _ d,z,ne,k _ _ (.inl rfl) e,mA,⟨od,es,ep,k _ _ (.inr d) e2,c⟩,r⟩
  | own y=>obtain⟨ob,e⟩:=x;exact⟨ob,k _ _ (.inl rfl) e⟩
  | xd fs=>obtain⟨mA,⟨od,es,ep,e,c⟩,r⟩:=x;exact⟨mA,⟨od,es,ep,k _ _ (.inl rfl) e,c⟩,r⟩
  | rng lo hi=>obtain⟨t,u,v,e⟩:=x;exact⟨t,u,v,k _ _ (.inl rfl) e⟩
  | frz ob u ih=>obtain⟨e,q⟩:=x;exact⟨k _ _ (.inl rfl) e,ih q⟩
  | tbl ps =>
    have e:h.get? a=some { cls:=.none,data:=.fields ps }:=x
    show h'.get? a=some { cls:=.none,data:=.fields ps }
    exact k a _ (.inl rfl) e
  | met f y =>
    have e:h.get? a=some (PySem.W.methodObj (.ref f) (.ref y)):=x
    show h'.get? a=some (PySem.W.methodObj (.ref f) (.ref y))
    exact k a _ (.inl rfl) e
  | ext φ=>obtain⟨p,⟨o,e⟩,st⟩:=x;exact⟨st _ _ p fun o q=>k _ _ (.inl rfl) q,⟨o,k _ _ (.inl rfl) e⟩,st⟩
theorem HOk.lt(x:HOk P w H h)(e:H a=some o):a<h.objs.size:=(x a o e).lt
theorem HOk.fresh(x:HOk P w H h)(e:h.objs.size<=a):H a=none:=by
  cases q:H a with
  | none=>rfl
  | some u=>exact absurd (Zh (x.lt q) e) (ZJ _)
theorem HOk.kept(x:HOk P w H h)(k:∀b u,h.get? b=some u->h'.get? b=some u):HOk P w H h':=fun a o e =>
  (x a o e).stay (fun b u _ q=>k b u q) (fun _ q=>q) fun _ _ q=>q
theorem HOk.laid(x:HOk P w H h)(k:∀b u,h.get? b=some u->h'.get? b=some u)(hp:h.objs.size<=a)(new:ObjOk P w (upd H a o) h' a o):HOk P w (upd H a o) h':=fun b u e=>by
  have hn:=x.fresh hp
  by_cases hb:b=a
  . subst hb;rw[zn]at e;cases e;exact new
  . rw[z8 hb]at e
    exact(x b u e).stay (fun c v _ q=>k c v q) (fun c q=>by rw[z8 (w5 q hn)];exact q) fun c xs q=>by rw[z8 (w5 q hn)];exact q
end
def Rd(H:Hp)(a:Addr)(u:HO):Prop:=H a=some u\/∃o,H a=some (.frz o u)
theorem Rd.of{H:Hp}{a:Addr}{u:HO}(h:H a=some u):Rd H a u:=.inl h
theorem Rd.ok{P:Program}{w:World}{H:Hp}{h:Heap}{a:Addr}{u:HO}(r:Rd H a u)(x:HOk P w H h):ObjOk P w H h a u:=by
  rcases r with r | ⟨o,r⟩
  . exact x a u r
  . obtain⟨_,q⟩:=x a _ r
    exact q
def Mut:Option HO->Prop
  | some (.lst _)=>True
  | some (.dK _)=>True
  | some (.dT _)=>True
  | some (.set _ _)=>True
  | some (.ins _ _ _)=>True
  | some (.ext _)=>True
  | _=>False
section
variable{P:Program}{w:World}{H:Hp}{h h':Heap}{x e:Addr}{o':HO}
theorem HOk.write(ok:HOk P w H h)(mu:Mut (H x))(he:e=x\/H e=some (.own x))(k:∀b u,b≠e->h.get? b=some u->h'.get? b=some u)(heo:∃u,h'.get? e=some u)
    (new:ObjOk P w (upd H x o') h' x o'):HOk P w (upd H x o') h':=fun b u q=>by
  have nown:∀c y,H c=some (.own y)->c≠x:=fun c y r z=>by subst z;rw[r]at mu;exact mu
  have ntup:∀c xs,H c=some (.tup xs)->c≠x:=fun c xs r z=>by subst z;rw[r]at mu;exact mu
  by_cases hb:b=x
  . subst hb;rw[zn]at q;cases q;exact new
  . rw[z8 hb]at q
    by_cases hbe:b=e
    . have q':H b=some (.own x):=by
        rcases he with z | z
        . exact absurd (hbe.trans z) hb
        . rw[hbe];exact z
      rw[q]at q';cases q';obtain⟨v,hv⟩:=heo;exact⟨v,by rw[hbe];exact hv⟩
    . refine(ok b u q).stay (fun c v hc r=>k c v ?_ r) (fun c r=>by rw[z8 (nown c b r)];exact r) fun c xs r=>by rw[z8 (ntup c xs r)];exact r
      rcases hc with rfl | hc
      . exact hbe
      . rintro rfl
        rcases he with z | z
        . exact nown c b hc z
        . rw[hc]at z;cases z;exact hb rfl
end
structure Un(fs ex:List Addr)(H H':Hp)(h h':Heap):Prop where
  keep:∀b o,h.get? b=some o->H b=none->b∉fs->b∉ex->h'.get? b=some o
  slot:∀b o,h.get? b=some o->H b=none->b∈fs->b∉ex->∃sl,h'.get? b=some { o with slots:=sl }
  free:∀b o,h.get? b=some o->H b=none->b∉ex->H' b=none
  there:∀b o,h.get? b=some o->b∉ex->∃o',h'.get? b=some o'
  tups:∀b xs,H b=some (.tup xs)->H' b=some (.tup xs)
  frzs:∀b o u,H b=some (.frz o u)->H' b=some (.frz o u)
  tbls:∀b ps,H b=some (.tbl ps)->∃more,H' b=some (.tbl (ps++more))
section
variable{fs fs' ex ex':List Addr}{H H1 H2:Hp}{h h1 h2 h':Heap}{a x e:Addr}{o:HO}
theorem Un.any(u:Un fs ex H H1 h h1){b:Addr}{ob:Obj}(q:h.get? b=some ob)(n:H b=none)(hx:b∉ex):∃sl,h1.get? b=some { ob with slots:=sl }:=by
  by_cases hb:b∈fs
  . exact u.slot b ob q n hb hx
  . exact⟨ob.slots,u.keep b ob q n hb hx⟩
theorem Un.trans(a:Un fs ex H H1 h h1)(b:Un fs ex H1 H2 h1 h2):Un fs ex H H2 h h2 where
  keep:=fun c ob q n hc hx=>b.keep c ob (a.keep c ob q n hc hx) (a.free c ob q n hx) hc hx
  slot:=fun c ob q n hc hx=>by
    obtain⟨sl,e1⟩:=a.slot c ob q n hc hx;obtain⟨sl',e2⟩:=b.slot c _ e1 (a.free c ob q n hx) hc hx;exact⟨sl',e2⟩
  free:=fun c ob q n hx=>by
    obtain⟨o',e1⟩:=a.there c ob q hx;exact b.free c o' e1 (a.free c ob q n hx) hx
  there:=fun c ob q hx=>by
    obtain⟨o',e1⟩:=a.there c ob q hx;exact b.there c o' e1 hx
  tups:=fun c xs q=>b.tups c xs (a.tups c xs q)
  frzs:=fun c ob xs q=>b.frzs c ob xs (a.frzs c ob xs q)
  tbls:=fun c ps q=>by
    obtain⟨m1,e1⟩:=a.tbls c ps q;obtain⟨m2,e2⟩:=b.tbls c _ e1;exact⟨m1++m2,by rw[e2,Array.append_assoc]⟩
theorem Un.kept(k:∀b u,h.get? b=some u->h'.get? b=some u):Un fs ex H H h h' :=
  ⟨fun b ob q _ _ _=>k b ob q,fun b ob q _ _ _=>⟨ob.slots,k b ob q⟩,fun _ _ _ n _=>n,fun b ob q _=>⟨ob,k b ob q⟩,fun _ _ q=>q,fun _ _ _ q=>q,fun _ ps q=>⟨#[],by rw[q];simp⟩⟩
theorem Un.refl:Un fs ex H H h h:=Un.kept fun _ _ q=>q
theorem Un.laid(k:∀b u,h.get? b=some u->h'.get? b=some u)(hp:h.objs.size<=a)(hn:H a=none):Un fs ex H (upd H a o) h h' where
  keep:=fun b u q _ _ _=>k b u q
  slot:=fun b u q _ _ _=>⟨u.slots,k b u q⟩
  free:=fun b u q n _=>by rw[z8 (Zs (Zh (Heap.lt_size q) hp))];exact n
  there:=fun b u q _=>⟨u,k b u q⟩
  tups:=fun b xs q=>by rw[z8 (w5 q hn)];exact q
  frzs:=fun b u xs q=>by rw[z8 (w5 q hn)];exact q
  tbls:=fun b ps q=>⟨#[],by rw[z8 (w5 q hn),q];simp⟩
theorem Un.write(mu:Mut (H x))(he:e=x\/H e=some (.own x))(k:∀b u,b≠e->h.get? b=some u->h'.get? b=some u)(heo:∃u,h'.get? e=some u):Un fs ex H (upd H x o) h h':=by
  have hx:∀b,H b=none->b≠x:=fun b n z=>by subst z;rw[n]at mu;exact mu
  have hb:∀b,H b=none->b≠e:=fun b n z=>by
    subst z
    rcases he with r | r
    . exact hx b n r
    . rw[n]at r;cases r
  have hm:∀b u,H b=some u->¬Mut (some u)->b≠x:=fun b u q nm z=>by subst z;rw[q]at mu;exact nm mu
  refine⟨fun b u q n _ _=>k b u (hb b n) q,fun b u q n _ _=>⟨u.slots,k b u (hb b n) q⟩,fun b u q n _=>by rw[z8 (hx b n)];exact n,fun b u q _ => ?_,
    fun b xs q=>by rw[z8 (hm b _ q fun z=>z)];exact q,fun b u xs q=>by rw[z8 (hm b _ q fun z=>z)];exact q,fun b ps q=>⟨#[],by rw[z8 (hm b _ q fun z=>z),q];simp⟩⟩
  by_cases hbe:b=e
  . subst hbe;exact heo
  . exact⟨u,k b u hbe q⟩
theorem Un.mono(u:Un fs ex H H1 h h1)(hs:∀b∈fs,b∈fs')(hx:∀b∈ex,b∈ex'):Un fs' ex' H H1 h h1 :=
  ⟨fun b ob q n hb he=>u.keep b ob q n (fun z=>hb (hs b z)) fun z=>he (hx b z),fun _ _ q n _ he=>u.any q n fun z=>he (hx _ z),fun b ob q n he=>u.free b ob q n fun z=>he (hx b z),fun b ob q he=>u.there b ob q fun z=>he (hx b z),u.tups,u.frzs,u.tbls⟩
end
def trk(h:Heap)(H:Hp):List Addr:=(List.range h.objs.size).filter fun a=>(H a).isSome
def hidT(h:Heap)(H:Hp):Heap:=PySem.W.hideAll h (trk h H)
theorem zhp(h:Heap)(H:Hp):(hidT h H).objs.size=h.objs.size:=PySem.W.hideAll_size _ _
theorem zjz{h:Heap}{H:Hp}{b:Addr}{o:Obj}(e:h.get? b=some o)(n:H b=none):(hidT h H).get? b=some o :=
  PySem.W.hideAll_get _ e fun hm=>by
    have q:(H b).isSome=true:=(List.mem_filter.mp hm).2;rw[n]at q;simp at q
theorem zl7{h:Heap}{H:Hp}{b:Addr}{o:Obj}(e:(hidT h H).get? b=some o):h.get? b=some o/\H b=none:=by
  have e':h.get? b=some o:=PySem.W.of_hideAll (trk h H) e;refine⟨e',?_⟩
  cases q:H b with
  | none=>rfl
  | some x =>
    have hm:b∈trk h H:=List.mem_filter.mpr ⟨ZT.mpr (Heap.lt_size e'),by simp[q]⟩;have z:(hidT h H).get? b=none:=PySem.W.hideAll_none (trk h H) hm;rw[z]at e;cases e
def zkz(g h:Heap)(L:Addr):List (Addr×Obj):=(List.range h.objs.size).filterMap fun a=>if a=L\/(g.get? a).isSome=true then none else(h.get? a).map fun o=>(a,o)
def rest(g h:Heap)(L d:Addr):List (Addr×Obj):=(zkz g h L).filter fun p=>decide (p.1≠d)
end L2
namespace L2
open PySem PySem.Spec PyProof.Rows
structure Mod(K:Fg)(mg:Str->Option Value)(base:Heap):Prop where
  kin:K.In base
  glob:base.Ns mainGlobals mg
  blt:∃mb,base.Ns builtinsNs mb/\∀x:Str,x ≠ "__name__" -> mb x=bootBuiltins x
  nolimit:base.NoLimit
structure Cx where
  prog:Program
  w:World
  K:Fg
  mg:Str->Option Value
  base:Heap
  A:Around
  N:List Str
  s₀:Shared
  H₀:Hp
  env:Env
  outer:List Env
  stack:List Env
  ex:List Addr
  fn:Str->Bool
  calm:Bool
  pn:List (Addr×Obj)
  xe:Value->Shared->Prop
def frs(l:List Env):List Addr:=l.filterMap (·.frame)
abbrev Cx.fs(X:Cx):List Addr:=frs X.outer
def Vis(sc:Scope)(x:Str):Prop:=sc.names.lookup x=some .local\/sc.names.lookup x=some .cell\/sc.names.lookup x=some .free
def Loc(sc:Scope)(x:Str):Prop:=sc.names.lookup x=some .local\/sc.names.lookup x=some .cell
def Look(env:Env)(h:Heap)(m:Str->Option Value)(x:Str)(u:Value):Prop :=
  (env.kindOf x=some .local/\m x=some u)\/((env.kindOf x=some .cell\/env.kindOf x=some .free)/\∃c,env.cells.lookup x=some c/\h.IsCell c (some u))
structure Cx.Ok(X:Cx):Prop where
  mod:Mod X.K X.mg X.base
  kind:X.env.scope.kind=.function
  glob:X.env.globals=mainGlobals
  blt:X.env.builtins=builtinsNs
  above:X.s₀.heap.objs.size<=X.env.locals
  inj:∀x y c,X.env.cells.lookup x=some c->X.env.cells.lookup y=some c->x=y
  has:∀x,(X.env.kindOf x=some .cell\/X.env.kindOf x=some .free)->∃c,X.env.cells.lookup x=some c
  cab:∀x c,X.fn x=true->X.env.cells.lookup x=some c->X.s₀.heap.objs.size<=c
  hd:X.calm=true->X.A.handled=none
  frames:X.A.frames=some X.stack
  stk:X.stack=X.outer\/(X.stack=X.env::X.outer/\X.env.frame=some X.env.locals)
  exf:∀b∈X.ex,b≠X.env.locals/\∀x c,X.env.cells.lookup x=some c->c≠b
  bs:∀b o,X.base.get? b=some o->X.s₀.heap.get? b=some o/\X.H₀ b=none
  bsz:X.base.objs.size<=X.s₀.heap.objs.size
  noex:∀b o,X.base.get? b=some o->b∉X.ex
  exfs:∀b∈X.ex,b∉X.fs
  funs:X.s₀.heap.FunFrames X.base X.outer
  frf:∀b∈X.fs,X.H₀ b=none
structure Inv(X:Cx)(pins:List (Addr×Obj))(σ:List (Option V))(H:Hp)(s:Shared):Prop where
  ok:X.Ok
  os:s.os=X.s₀.os
  bare:AllBare s.gens
  base:Un X.fs X.ex X.H₀ H X.s₀.heap s.heap
  loc:∃m,s.heap.Ns X.env.locals m/\∀(i:Nat) (x:Str) (v:V),X.N[i]? = some x->σ[i]? = some (some v)->Vis X.env.scope x->∃u,RelV v u/\Look X.env s.heap m x u
  cell:∀x c,X.env.cells.lookup x=some c->∃v,s.heap.IsCell c v
  free:H X.env.locals=none
  freeC:∀x c,X.env.cells.lookup x=some c->H c=none
  pin:∀p∈X.pn++pins,s.heap.get? p.1=some p.2/\H p.1=none/\p.1≠X.env.locals/\p.1∉X.fs/\∀v,p.2.data≠.cell v
  hok:HOk X.prog X.w H s.heap
  len:σ.length=X.N.length
section
variable{X:Cx}{pins:List (Addr×Obj)}{σ:List (Option V)}{H H':Hp}{s:Shared}{h':Heap}
theorem Cx.Ok.nofr(ok:X.Ok){b:Addr}{o:Obj}(e:X.base.get? b=some o):b∉X.fs:=fun hb=>by
  have:=(ok.funs.mem hb).1;rw[e]at this;cases this
theorem Inv.bs(I:Inv X pins σ H s):∀b o,X.base.get? b=some o->s.heap.get? b=some o/\H b=none:=fun b o e =>
  ⟨I.base.keep b o (I.ok.bs b o e).1 (I.ok.bs b o e).2 (I.ok.nofr e) (I.ok.noex b o e),I.base.free b o (I.ok.bs b o e).1 (I.ok.bs b o e).2 (I.ok.noex b o e)⟩
theorem Inv.bk(I:Inv X pins σ H s):∀b o,X.base.get? b=some o->s.heap.get? b=some o:=fun b o e=>(I.bs b o e).1
theorem Inv.mod(I:Inv X pins σ H s):Mod X.K X.mg X.base:=I.ok.mod
theorem Inv.kIn(I:Inv X pins σ H s):X.K.In s.heap:=I.ok.mod.kin.keeps I.bk
theorem Inv.lt(I:Inv X pins σ H s):X.env.locals<s.heap.objs.size:=let ⟨_,hn,_⟩:=I.loc;hn.lt
theorem Inv.sz(I:Inv X pins σ H s):X.s₀.heap.objs.size<=s.heap.objs.size:=Zd I.ok.above (YW I.lt)
theorem Inv.nofs(I:Inv X pins σ H s){a:Addr}(h:s.heap.objs.size<=a):a∉X.fs:=fun hb=>by
  obtain⟨_,o,ho,_⟩:=I.ok.funs.mem hb;exact absurd (Zh (Heap.lt_size ho) (Zd I.sz h)) (ZJ _)
theorem Inv.cne(I:Inv X pins σ H s):∀x c,X.env.cells.lookup x=some c->c≠X.env.locals:=fun x c e z=>by
  obtain⟨v,o,ho,hd⟩:=I.cell x c e;obtain⟨m,⟨o',es,ep,ho',hd',_⟩,_⟩:=I.loc;rw[z,ho']at ho;cases ho;rw[hd']at hd;cases hd
theorem Inv.funs(I:Inv X pins σ H s):s.heap.FunFrames X.base X.outer:=by
  have all:∀(l:List Env),(∀b∈frs l,b∈X.fs)->X.s₀.heap.FunFrames X.base l->s.heap.FunFrames X.base l:=by
    intro l
    induction l with
    | nil=>intro _ _;trivial
    | cons env r ih =>
      intro hs hl;obtain⟨hk,⟨L,o,hf,hn,ho,hd⟩,hr⟩:=hl;have hL:L∈X.fs:=hs L (by unfold frs;rw[Ys,hf];exact ZA);obtain⟨sl,e⟩:=I.base.slot L o ho (I.ok.frf L hL) hL fun z=>I.ok.exfs L z hL
      exact⟨hk,⟨L,_,hf,hn,e,hd⟩,ih (fun b hb=>hs b (by unfold frs;rw[Ys,hf];exact Zv _ hb)) hr⟩
  exact all X.outer (fun _ hb=>hb) I.ok.funs
theorem Inv.stack(I:Inv X pins σ H s):s.heap.FunFrames X.base X.stack:=by
  rcases I.ok.stk with e | ⟨e,hf⟩
  . rw[e];exact I.funs
  . rw[e]
    obtain⟨m,hn,_⟩:=I.loc;refine .cons (by rw[I.ok.kind];decide) hf hn ?_ I.funs;exact Heap.get?_none_of_le (Zd I.ok.bsz I.ok.above)
theorem Inv.stkSub(I:Inv X pins σ H s):∀b∈frs X.stack,b∈X.env.locals::X.fs:=fun b hb=>by
  rcases I.ok.stk with e | ⟨e,hf⟩
  . rw[e]at hb;exact Zv _ hb
  . rw[e]at hb
    unfold frs at hb;rw[Ys,hf]at hb;exact hb
theorem Inv.stkFree(I:Inv X pins σ H s):∀b∈frs X.stack,H b=none:=fun b hb=>by
  rcases ZK.mp (I.stkSub b hb) with e | hb
  . rw[e];exact I.free
  . obtain⟨_,o,ho,_⟩:=I.ok.funs.mem hb
    exact I.base.free b o ho (I.ok.frf b hb) fun z=>I.ok.exfs b z hb
theorem Inv.step{g':Array GenState}{t':Nat}{d':Drawn}{ch:List Addr}(I:Inv X pins σ H s)
    (hch:∀b∈ch,(b∈X.ex\/X.s₀.heap.objs.size<=b)/\b≠X.env.locals/\(∀x c,X.env.cells.lookup x=some c->c≠b)/\∀p∈X.pn++pins,p.1≠b)
    (keep:∀b o,b≠X.env.locals->b∉X.fs->b∉ch->s.heap.get? b=some o->H b=none->h'.get? b=some o)
    (slot:∀b o,b≠X.env.locals->b∈X.fs->b∉ch->s.heap.get? b=some o->H b=none->∃sl,h'.get? b=some { o with slots:=sl }) (free:∀b o,b∉ch->s.heap.get? b=some o->H b=none->H' b=none)
    (there:∀b o,b∉ch->s.heap.get? b=some o->∃o',h'.get? b=some o')
    (tups:∀b xs,H b=some (.tup xs)->H' b=some (.tup xs)) (frzs:∀b o u,H b=some (.frz o u)->H' b=some (.frz o u)) (tbls:∀b ps,H b=some (.tbl ps)->∃more,H' b=some (.tbl (ps++more)))
    (ns:∀m,s.heap.Ns X.env.locals m->h'.Ns X.env.locals m) (hok:HOk X.prog X.w H' h') (hg:AllBare g') :
    Inv X pins σ H' { s with heap:=h',gens:=g',drawn:=d',toks:=t' }:=by
  have neL:∀b o,X.s₀.heap.get? b=some o->b≠X.env.locals:=fun b o e=>Zs (Zh (Heap.lt_size e) I.ok.above)
  have neC:∀b o,X.s₀.heap.get? b=some o->b∉X.ex->b∉ch:=fun b o e hx hb=>by
    rcases (hch b hb).1 with z | z
    . exact hx z
    . exact absurd (Zh (Heap.lt_size e) z) (ZJ _)
  have cellK:∀x c,X.env.cells.lookup x=some c->∀v,s.heap.IsCell c v->h'.IsCell c v:=fun x c e v ⟨o,ho,hd⟩=>by
    have nch:c∉ch:=fun z=>(hch c z).2.2.1 x c e rfl
    by_cases hc:c∈X.fs
    . obtain⟨sl,q⟩:=slot c o (I.cne x c e) hc nch ho (I.freeC x c e)
      exact⟨_,q,hd⟩
    . exact⟨o,keep c o (I.cne x c e) hc nch ho (I.freeC x c e),hd⟩
  refine⟨I.ok,I.os,hg,⟨fun b o e n hb hx => ?_,fun b o e n hb hx => ?_,fun b o e n hx => ?_,fun b o e hx => ?_,fun b xs e=>tups b xs (I.base.tups b xs e),fun b o xs e=>frzs b o xs (I.base.frzs b o xs e),fun b ps e => ?_⟩,?_,fun x c e => ?_,?_,fun x c e => ?_,fun p hp => ?_,hok,I.len⟩
  . exact keep b o (neL b o e) hb (neC b o e hx) (I.base.keep b o e n hb hx) (I.base.free b o e n hx)
  . obtain⟨sl,e1⟩:=I.base.slot b o e n hb hx
    obtain⟨sl',e2⟩:=slot b _ (neL b o e) hb (neC b o e hx) e1 (I.base.free b o e n hx);exact⟨sl',e2⟩
  . obtain⟨o',e1⟩:=I.base.there b o e hx
    exact free b o' (neC b o e hx) e1 (I.base.free b o e n hx)
  . obtain⟨o',e1⟩:=I.base.there b o e hx
    exact there b o' (neC b o e hx) e1
  . obtain⟨m1,e1⟩:=I.base.tbls b ps e
    obtain⟨m2,e2⟩:=tbls b _ e1;exact⟨m1++m2,by rw[e2,Array.append_assoc]⟩
  . obtain⟨m,hn,hl⟩:=I.loc
    refine⟨m,ns m hn,fun i x v e1 e2 e3 => ?_⟩;obtain⟨u,r,l⟩:=hl i x v e1 e2 e3;refine⟨u,r,?_⟩
    rcases l with l | ⟨k,c,e,z⟩
    . exact .inl l
    . exact .inr ⟨k,c,e,cellK x c e _ z⟩
  . obtain⟨v,z⟩:=I.cell x c e
    exact⟨v,cellK x c e v z⟩
  . obtain⟨m,⟨o,_,_,ho,_⟩,_⟩:=I.loc
    exact free _ o (fun z=>(hch _ z).2.1 rfl) ho I.free
  . obtain⟨v,o,ho,hd⟩:=I.cell x c e
    exact free c o (fun z=>(hch c z).2.2.1 x c e rfl) ho (I.freeC x c e)
  . obtain⟨e,n,ne,nf,d⟩:=I.pin p hp
    have nch:p.1∉ch:=fun z=>(hch p.1 z).2.2.2 p hp rfl
    exact⟨keep p.1 p.2 ne nf nch e n,free p.1 p.2 nch e n,ne,nf,d⟩
theorem Inv.un{t':Nat}(I:Inv X pins σ H s)(u:Un X.fs [] H H' s.heap h')(hok:HOk X.prog X.w H' h'):Inv X pins σ H' { s with heap:=h',toks:=t' }:=by
  obtain⟨m,⟨o,es,ep,ho,r⟩,_⟩:=id I.loc;obtain⟨sl,hL⟩:=u.any ho I.free (by simp)
  exact I.step (g':=s.gens) (d':=s.drawn) (ch:=[]) (fun _ z=>nomatch z) (fun b o _ hb _ e n=>u.keep b o e n hb (by simp)) (fun b o _ hb _ e n=>u.slot b o e n hb (by simp)) (fun b o _ e n=>u.free b o e n (by simp)) (fun b o _ e=>u.there b o e (by simp)) u.tups u.frzs u.tbls (fun m' hm=>by
    obtain⟨o',es',ep',ho',r'⟩:=hm;rw[ho]at ho';cases ho'
    exact⟨_,es',ep',hL,r'⟩) hok I.bare
theorem Inv.call{g':Array GenState}{t':Nat}{d':Drawn}{ch:List Addr}(I:Inv X pins σ H s)(u:Un (frs X.stack) ch H H' s.heap h')(hok:HOk X.prog X.w H' h')(hg:AllBare g')
    (hch:∀b∈ch,(b∈X.ex\/X.s₀.heap.objs.size<=b)/\b≠X.env.locals/\(∀x c,X.env.cells.lookup x=some c->c≠b)/\∀p∈X.pn++pins,p.1≠b) :
    Inv X pins σ H' { s with heap:=h',gens:=g',drawn:=d',toks:=t' }:=by
  obtain⟨m,⟨o,es,ep,ho,r⟩,_⟩:=id I.loc;obtain⟨sl,hL⟩:=u.any ho I.free fun z=>(hch _ z).2.1 rfl
  exact I.step (ch:=ch) hch (fun b o hL hb hc e n=>u.keep b o e n (fun z=>(ZK.mp (I.stkSub b z)).elim hL hb) hc) (fun b o _ _ hc e n=>u.any e n hc) (fun b o hc e n=>u.free b o e n hc) (fun b o hc e=>u.there b o e hc) u.tups u.frzs u.tbls (fun m' hm=>by
    obtain⟨o',es',ep',ho',r'⟩:=hm;rw[ho]at ho';cases ho'
    exact⟨_,es',ep',hL,r'⟩) hok hg
theorem Inv.turned{t':Nat}{it:Addr}(I:Inv X pins σ H s)(k:∀b o,b≠it->s.heap.get? b=some o->h'.get? b=some o)(hn:H it=none)(hL:it≠X.env.locals)
    (h1:it∈X.ex\/X.s₀.heap.objs.size<=it) (h2:∀x c,X.env.cells.lookup x=some c->c≠it) (h3:∀p∈X.pn++pins,p.1≠it):Inv X pins σ H { s with heap:=h',toks:=t' }:=by
  have nit:∀b u,H b=some u->b≠it:=fun b u e z=>by rw[z,hn]at e;cases e
  refine I.step (g':=s.gens) (d':=s.drawn) (ch:=[it]) (fun b hb => ?_) (fun b o _ _ hc e _=>k b o (fun z=>hc (by simp[z])) e) (fun b o _ _ hc e _=>⟨o.slots,k b o (fun z=>hc (by simp[z])) e⟩) (fun _ _ _ _ n=>n)
    (fun b o hc e=>⟨o,k b o (fun z=>hc (by simp[z])) e⟩) (fun _ _ e=>e) (fun _ _ _ e=>e) (fun b ps e=>⟨#[],by rw[e];simp⟩) (fun m hm => ?_) (fun b u e => ?_) I.bare
  . have e:b=it:=by simpa using hb
    subst e;exact⟨h1,hL,h2,h3⟩
  . obtain⟨o,es,ep,ho,r⟩:=hm
    exact⟨o,es,ep,k _ o (Ne.symm hL) ho,r⟩
  . refine(I.hok b u e).stay (fun c v hc q=>k c v ?_ q) (fun _ q=>q) fun _ _ q=>q
    rcases hc with z | z
    . rw[z];exact nit b u e
    . exact nit c _ z
theorem Inv.tok(I:Inv X pins σ H s)(t:Nat):Inv X pins σ H { s with toks:=t }:=I.un (h':=s.heap) (t':=t) Un.refl I.hok
theorem Inv.kept{t':Nat}(I:Inv X pins σ H s)(k:∀b u,s.heap.get? b=some u->h'.get? b=some u):Inv X pins σ H { s with heap:=h',toks:=t' }:=I.un (Un.kept k) (I.hok.kept k)
theorem Inv.laid{a:Addr}{o:HO}{t':Nat}(I:Inv X pins σ H s)(k:∀b u,s.heap.get? b=some u->h'.get? b=some u)(hp:s.heap.objs.size<=a)(new:ObjOk X.prog X.w (upd H a o) h' a o) :
    Inv X pins σ (upd H a o) { s with heap:=h',toks:=t' }:=I.un (Un.laid k hp (I.hok.fresh hp)) (I.hok.laid k hp new)
theorem Inv.write{x e:Addr}{o:HO}{t':Nat}(I:Inv X pins σ H s)(mu:Mut (H x))(he:e=x\/H e=some (.own x))(k:∀b u,b≠e->s.heap.get? b=some u->h'.get? b=some u)(heo:∃u,h'.get? e=some u)
    (new:ObjOk X.prog X.w (upd H x o) h' x o):Inv X pins σ (upd H x o) { s with heap:=h',toks:=t' }:=I.un (Un.write mu he k heo) (I.hok.write mu he k heo new)
theorem Inv.weak{σ':List (Option V)}(I:Inv X pins σ H s)(hl:σ'.length=σ.length)(w:∀(i:Nat) v,σ'[i]? = some (some v)->σ[i]? = some (some v)):Inv X pins σ' H s :=
  ⟨I.ok,I.os,I.bare,I.base,let ⟨m,hn,hl'⟩:=I.loc;⟨m,hn,fun i x v e1 e2 e3=>hl' i x v e1 (w i v e2) e3⟩,I.cell,I.free,I.freeC,I.pin,I.hok,hl.trans I.len⟩
theorem Inv.pins_of{pins':List (Addr×Obj)}(I:Inv X pins σ H s)(h:∀p∈pins',s.heap.get? p.1=some p.2/\H p.1=none/\p.1≠X.env.locals/\p.1∉X.fs/\∀v,p.2.data≠.cell v):Inv X pins' σ H s :=
  ⟨I.ok,I.os,I.bare,I.base,I.loc,I.cell,I.free,I.freeC,fun p hp=>(ZH.mp hp).elim (fun z=>I.pin p (Yg _ z)) (h p),I.hok,I.len⟩
theorem dt{N:List Str}(hN:N.Nodup){i j:Nat}{x:Str}(a:N[i]? = some x)(b:N[j]? = some x):i=j:=by
  obtain⟨h1,e1⟩:=Zc.mp a;obtain⟨h2,e2⟩:=Zc.mp b;exact(YX hN).mp (e1.trans e2.symm)
theorem il{M:Model}{A:Around}{E:Value->Shared->Prop}{i:Nat}{x:Str}{v:V}{u:Value}{Q:Unit->Shared->Prop}(I:Inv X pins σ H s)(hN:X.N.Nodup)(hi:X.N[i]? = some x)(hx:Loc X.env.scope x)(r:RelV v u)
    (h:∀s',Inv X pins (σ.set i (some v)) H s'->(∃a,Heap.SameBut a s.heap s'.heap/\(a=X.env.locals\/X.env.cells.lookup x=some a))->Q () s') (hf:X.fn x=true\/X.env.scope.names.lookup x=some .local:=by first | exact .inl rfl | exact .inr rfl | assumption):wpAny M A (storeName X.env x u) Q E s:=by
  obtain⟨m,hn,hl⟩:=id I.loc;have hcls:(X.env.scope.kind==.class||(X.env.scope.kind==.module&&X.env.locals != X.env.globals))=false:=by rw[I.ok.kind];rfl
  have hiσ:i<σ.length:=by rw[I.len];exact(Zc.mp hi).1
  have cne:=I.cne
  have tracked:∀{a:Addr} {h':Heap},(∃o,s.heap.get? a=some o/\H a=none)->Heap.SameBut a s.heap h'->HOk X.prog X.w H h':=fun {a h'} ha hs b ob e=>by
    obtain⟨_,_,hfree⟩:=ha;refine(I.hok b ob e).stay (fun c w' hc q=>(hs.2 c ?_).trans q) (fun _ q=>q) fun _ _ q=>q
    rintro rfl
    rcases hc with rfl | hc
    . rw[hfree]at e;cases e
    . rw[hfree]at hc;cases hc
  rcases hx with hk | hk
  . refine wpAny_storeName_local hk hn (fun h' hn' hs => ?_) hcls
    obtain⟨oL,_,_,hoL,_⟩:=id hn;refine h _ ⟨I.ok,I.os,I.bare,⟨fun b o e n hb hx => ?_,fun b o e n hb hx => ?_,I.base.free,fun b o e hx => ?_,I.base.tups,I.base.frzs,I.base.tbls⟩,⟨_,hn',fun j y v' e1 e2 e3 => ?_⟩,fun y c e => ?_,I.free,I.freeC,fun p hp => ?_,tracked ⟨oL,hoL,I.free⟩ hs,by simpa using I.len⟩ ⟨_,hs,.inl rfl⟩
    . exact(hs.2 b (Zs (Zh (Heap.lt_size e) I.ok.above))).trans (I.base.keep b o e n hb hx)
    . obtain⟨sl,e1⟩:=I.base.slot b o e n hb hx
      exact⟨sl,(hs.2 b (Zs (Zh (Heap.lt_size e) I.ok.above))).trans e1⟩
    . obtain⟨o',e1⟩:=I.base.there b o e hx
      exact⟨o',(hs.2 b (Zs (Zh (Heap.lt_size e) I.ok.above))).trans e1⟩
    . by_cases hj:j=i
      . subst hj
        rw[hi]at e1;cases e1;rw[Yo hiσ]at e2;cases e2;exact⟨u,r,.inl ⟨hk,by simp⟩⟩
      . rw[Yq (Ne.symm hj)]at e2
        obtain⟨u',r',q⟩:=hl j y v' e1 e2 e3;refine⟨u',r',?_⟩
        rcases q with ⟨k,e⟩ | ⟨k,c,e,z⟩
        . refine .inl ⟨k,?_⟩
          have:y≠x:=fun e=>hj (dt hN e1 (e▸hi))
          simp[this,e]
        . exact .inr ⟨k,c,e,z.sameBut hs (cne y c e)⟩
    . obtain⟨w',z⟩:=I.cell y c e
      exact⟨w',z.sameBut hs (cne y c e)⟩
    . obtain⟨e,n,ne,nf,d⟩:=I.pin p hp
      exact⟨(hs.2 p.1 ne).trans e,n,ne,nf,d⟩
  . have hfn:X.fn x=true:=by
      rcases hf with z | z
      . exact z
      . rw[z]at hk;cases hk
    obtain⟨c,hc⟩:=I.ok.has x (.inl hk);obtain⟨w',z⟩:=I.cell x c hc;refine wpAny_storeName_cell I.ok.kind hk hc z (fun h' hc' hs => ?_);obtain⟨oc,hoc,hocd⟩:=id z;refine h { s with heap:=h' } ⟨I.ok,I.os,I.bare,⟨fun b o e n hb hx => ?_,fun b o e n hb hx => ?_,I.base.free,fun b o e hx => ?_,I.base.tups,I.base.frzs,I.base.tbls⟩,⟨m,hn.sameBut hs (Ne.symm (cne x c hc)),fun j y v' e1 e2 e3 => ?_⟩,fun y c' e => ?_,I.free,I.freeC,fun p hp => ?_,tracked ⟨oc,hoc,I.freeC x c hc⟩ hs,by simpa using I.len⟩ ⟨c,hs,.inr hc⟩
    . exact(hs.2 b (Zs (Zh (Heap.lt_size e) (I.ok.cab x c hfn hc)))).trans (I.base.keep b o e n hb hx)
    . obtain⟨sl,e1⟩:=I.base.slot b o e n hb hx
      exact⟨sl,(hs.2 b (Zs (Zh (Heap.lt_size e) (I.ok.cab x c hfn hc)))).trans e1⟩
    . obtain⟨o',e1⟩:=I.base.there b o e hx
      exact⟨o',(hs.2 b (Zs (Zh (Heap.lt_size e) (I.ok.cab x c hfn hc)))).trans e1⟩
    . by_cases hj:j=i
      . subst hj
        rw[hi]at e1;cases e1;rw[Yo hiσ]at e2;cases e2;exact⟨u,r,.inr ⟨.inl hk,c,hc,hc'⟩⟩
      . rw[Yq (Ne.symm hj)]at e2
        obtain⟨u',r',q⟩:=hl j y v' e1 e2 e3;refine⟨u',r',?_⟩
        rcases q with q | ⟨k,c',e,z'⟩
        . exact .inl q
        . refine .inr ⟨k,c',e,z'.sameBut hs ?_⟩
          rintro rfl
          exact hj (dt hN e1 (I.ok.inj _ _ _ e hc▸hi))
    . by_cases hcc:c'=c
      . subst hcc;exact⟨_,hc'⟩
      . obtain⟨w2,z2⟩:=I.cell y c' e
        exact⟨w2,z2.sameBut hs hcc⟩
    . obtain⟨e,n,ne,nf,d⟩:=I.pin p hp
      refine⟨(hs.2 p.1 ?_).trans e,n,ne,nf,d⟩;intro q;rw[q,hoc]at e;have q':oc=p.2:=Option.some.inj e;exact d w' (by rw[<-q'];exact hocd)
theorem js{M:Model}{A:Around}{E:Value->Shared->Prop}{i:Nat}{x:Str}{v:V}{u:Value}{Q:Unit->Shared->Prop}(I:Inv X pins σ H s)(hN:X.N.Nodup)(hi:X.N[i]? = some x)(hx:Loc X.env.scope x)(r:RelV v u)
    (h:∀s',Inv X pins (σ.set i (some v)) H s'->Q () s') (hf:X.fn x=true\/X.env.scope.names.lookup x=some .local:=by first | exact .inl rfl | exact .inr rfl | assumption):wpAny M A (storeName X.env x u) Q E s :=
  il I hN hi hx r (fun s' I' _=>h s' I') hf
theorem Inv.call'{s':Shared}{ch:List Addr}(I:Inv X pins σ H s)(ho:s'.os=s.os)(u:Un (frs X.stack) ch H H' s.heap s'.heap)(hok:HOk X.prog X.w H' s'.heap)(hg:AllBare s'.gens)
    (hch:∀b∈ch,(b∈X.ex\/X.s₀.heap.objs.size<=b)/\b≠X.env.locals/\(∀x c,X.env.cells.lookup x=some c->c≠b)/\∀p∈X.pn++pins,p.1≠b):Inv X pins σ H' s':=by
  obtain⟨h',g',d',t',o'⟩:=s';have e:o'=s.os:=ho;subst e;exact I.call (g':=g') (t':=t') (d':=d') u hok hg hch
end
abbrev XK:=Value->Option Addr->Hp->Prop
abbrev St:=List (Option V)
abbrev VK:=V->Hp->Prop
abbrev TE:=St->Hp->VK->Prop
abbrev TT:=St->Hp->(Bool->Hp->Prop)->Prop
abbrev TA:=St->Hp->(List V->Hp->Prop)->Prop
structure Ends where
  nx:St->Hp->Prop
  rt:VK
  bk:St->Hp->Prop:=fun _ _=>False
  ct:St->Hp->Prop:=fun _ _=>False
abbrev TS:=Ends->St->Hp->Prop
def EP(X:Cx)(pins:List (Addr×Obj))(σ:St)(Q:VK)(u:Value)(s':Shared):Prop:=∃v H',Inv X pins σ H' s'/\RelV v u/\Q v H'
def TP(X:Cx)(pins:List (Addr×Obj))(σ:St)(Q:Bool->Hp->Prop)(b:Bool)(s':Shared):Prop:=∃H',Inv X pins σ H' s'/\Q b H'
def AP(X:Cx)(pins:List (Addr×Obj))(σ:St)(Q:List V->Hp->Prop)(us:List Value)(s':Shared):Prop:=∃vs H',Inv X pins σ H' s'/\Vals vs us/\Q vs H'
def SP(X:Cx)(pins:List (Addr×Obj))(D:Ends)(f:Flow)(s':Shared):Prop :=
  match f with
  | .next=>∃σ' H',Inv X pins σ' H' s'/\D.nx σ' H'
  | .brk=>∃σ' H',Inv X pins σ' H' s'/\D.bk σ' H'
  | .cont=>∃σ' H',Inv X pins σ' H' s'/\D.ct σ' H'
  | .ret u=>∃v σ' H',Inv X pins σ' H' s'/\RelV v u/\D.rt v H'
def PE(X:Cx)(e:Expr)(t:TE):Prop :=
  ∀(pins:List (Addr×Obj)) (s:Shared) (σ:St) (H:Hp) (Q:VK),Inv X pins σ H s->t σ H Q->wpAny (model X.prog X.w) X.A (eval e X.env) (EP X pins σ Q) X.xe s
def PT(X:Cx)(e:Expr)(t:TT):Prop :=
  ∀(pins:List (Addr×Obj)) (s:Shared) (σ:St) (H:Hp) (Q:Bool->Hp->Prop),Inv X pins σ H s->t σ H Q->wpAny (model X.prog X.w) X.A (isTrue e X.env (eval e X.env)) (TP X pins σ Q) X.xe s
def PW(X:Cx)(e:Expr)(t:TT):Prop :=
  ∀(whole:Sem Value) (pins:List (Addr×Obj)) (s:Shared) (σ:St) (H:Hp) (Q:Bool->Hp->Prop),Inv X pins σ H s->t σ H Q->wpAny (model X.prog X.w) X.A (isTrue e X.env whole) (TP X pins σ Q) X.xe s
theorem PW.pt{X:Cx}{e:Expr}{t:TT}(h:PW X e t):PT X e t:=h _
def PA(X:Cx)(es:List Expr)(t:TA):Prop :=
  ∀(pos:Pos) (pins:List (Addr×Obj)) (s:Shared) (σ:St) (H:Hp) (Q:List V->Hp->Prop),Inv X pins σ H s->t σ H Q->wpAny (model X.prog X.w) X.A (spliced (backTo pos (starEach es X.env))) (AP X pins σ Q) X.xe s
def PS(X:Cx)(st:Stmt)(t:TS):Prop :=
  ∀(pins:List (Addr×Obj)) (s:Shared) (σ:St) (H:Hp) (D:Ends),Inv X pins σ H s->t D σ H->wpAny (model X.prog X.w) X.A (exec st X.env) (SP X pins D) X.xe s
def PSs(X:Cx)(st:List Stmt)(t:TS):Prop :=
  ∀(pins:List (Addr×Obj)) (s:Shared) (σ:St) (H:Hp) (D:Ends),Inv X pins σ H s->t D σ H->wpAny (model X.prog X.w) X.A (execs st X.env) (SP X pins D) X.xe s
theorem thn{α:Type}{t:Sem α}{Q Q':α->Shared->Prop}{M:Model}{A:Around}{E:Value->Shared->Prop}{s:Shared}(h:wpAny M A t Q E s)(hQ:∀a s,Q a s->Q' a s):wpAny M A t Q' E s:=wpAny_mono h hQ fun _ _ x=>x
end L2
namespace L2
open PySem PySem.Spec PyProof.Rows
section
variable{X:Cx}
def tVar(i:Nat):TE:=fun σ H Q=>∃v,σ[i]? = some (some v)/\Q v H
def tC(v:V):TE:=fun _ H Q=>Q v H
theorem pe_var {i:Nat} {x:Str} {pos:Pos} (hN:X.N[i]? = some x) (hv:Vis X.env.scope x) (hd:(x==("__debug__" : Str))=false:=by decide) (hcd:(x==("__classdict__" : Str))=false:=by decide):PE X (.Name x pos) (tVar i):=by
  intro pins s σ H Q I h;obtain⟨v,e,h⟩:=h;obtain⟨m,hn,hl⟩:=I.loc;obtain⟨u,r,l⟩:=hl i x v hN e hv;have fin:EP X pins σ Q u s:=⟨v,H,I,r,h⟩
  rcases l with ⟨hk,hm⟩ | ⟨hk,c,hc,hcell⟩
  . exact wpAny_Name (wpAny_loadName_local I.ok.kind hk hn hm fin) hd
  . rcases hk with hk | hk
    . exact wpAny_Name (wpAny_loadName_cell I.ok.kind hk hc hcell fin) hd
    . exact wpAny_Name (wpAny_loadName_free I.ok.kind hk hc hcell fin hcd) hd
theorem zi{i j pos}:PE X (.Constant (.int i) j pos) (tC (.int i)):=fun _ _ _ H _ I h=>wpAny_Constant_int ⟨.int i,H,I.tok _,⟨_,rfl⟩,h⟩
theorem yz{b j pos}:PE X (.Constant (.bool b) j pos) (tC (.bl b)):=fun _ _ _ H _ I h=>Constant_bool ⟨.bl b,H,I,rfl,h⟩
theorem ql{j pos}:PE X (.Constant .none j pos) (tC .non):=fun _ _ _ H _ I h=>Constant_none ⟨.non,H,I,rfl,h⟩
theorem zm{x j pos}:PE X (.Constant (.str x) j pos) (tC (.str x)):=fun _ _ _ H _ I h=>Calls.Constant_str ⟨.str x,H,I.tok _,⟨_,rfl⟩,h⟩
def Gl(X:Cx)(x:Str):Prop:=X.env.kindOf x=some .globalImplicit
theorem mh{E:Value->Shared->Prop}{pins:List (Addr×Obj)}{s:Shared}{σ:St}{H:Hp}{x:Str}{u:Value}{pos:Pos}{Q:Value->Shared->Prop}(I:Inv X pins σ H s)(hg:Gl X x)(hm:X.mg x=some u)(h:Q u s)
    (hd:(x==("__debug__" : Str))=false:=by decide):wpAny (model X.prog X.w) X.A (eval (.Name x pos) X.env) Q E s :=
  Calls.Name_function_global I.ok.kind hg (Calls.loadGlobal_global (by rw[I.ok.glob];exact I.mod.glob.keeps I.bk) hm h) hd
theorem ou{E:Value->Shared->Prop}{pins:List (Addr×Obj)}{s:Shared}{σ:St}{H:Hp}{x:Str}{u:Value}{pos:Pos}{Q:Value->Shared->Prop}(I:Inv X pins σ H s)(hg:Gl X x)(hm:X.mg x=none)(hv:bootBuiltins x=some u)(h:Q u s)
    (hn:x ≠ "__name__" := by decide) (hd:(x==("__debug__" : Str))=false:=by decide):wpAny (model X.prog X.w) X.A (eval (.Name x pos) X.env) Q E s:=by
  obtain⟨mb,h1,h2⟩:=I.mod.blt;exact Calls.Name_function_global I.ok.kind hg (Calls.loadGlobal_builtin (by rw[I.ok.glob];exact I.mod.glob.keeps I.bk) hm (by rw[I.ok.blt];exact h1.keeps I.bk) ((h2 x hn).trans hv) h) hd
theorem xh {x:Str} {v:V} {u:Value} {pos:Pos} (hg:Gl X x) (hm:X.mg x=some u) (r:RelV v u) (hd:(x==("__debug__" : Str))=false:=by decide):PE X (.Name x pos) (tC v) :=
  fun _ _ _ H _ I h=>mh I hg hm ⟨v,H,I,r,h⟩ hd
theorem zkt {x:Str} {v:V} {u:Value} {pos:Pos} (hg:Gl X x) (hm:X.mg x=none) (hv:bootBuiltins x=some u) (r:RelV v u) (hn:x ≠ "__name__" := by decide) (hd:(x==("__debug__" : Str))=false:=by decide):PE X (.Name x pos) (tC v) :=
  fun _ _ _ H _ I h=>ou I hg hm hv ⟨v,H,I,r,h⟩ hn hd
variable{a b:Expr}{ta tb:TE}{pos:Pos}
def tB(t:TE):TT:=fun σ H Q=>t σ H fun x H1=>∃c,x=.bl c/\Q c H1
theorem yx{e:Expr}{t:TE}(h:PE X e t)(he:∀whole,isTrue e X.env whole=(do let v <-whole;standAt e.pos;holding [v] (truthy v)):=by intro _;rfl):PT X e (tB t):=by
  intro pins s σ H Q I hw;refine isTrue_plain (thn (h pins s σ H _ I hw) fun v s1 ⟨x,H1,I1,r1,q1⟩ => ?_) (he _);obtain⟨d,rfl,q⟩:=q1;cases r1;exact wpAny_truthy_bool ⟨H1,I1,q⟩
variable{tA tB':TT}{rest:List Expr}
def tAnd(t u:TT):TT:=fun σ H Q=>t σ H fun c H1=>if c=true then u σ H1 Q else Q false H1
def tOr(t u:TT):TT:=fun σ H Q=>t σ H fun c H1=>if c=true then Q true H1 else u σ H1 Q
def tNot(t:TT):TT:=fun σ H Q=>t σ H fun c H1=>Q (!c) H1
theorem zex(ha:PT X a tA):PW X (.BoolOp .And [a] pos) tA:=by
  intro wh pins s σ H Q I h;refine isTrue_and (thn (ha pins s σ H Q I h) fun c s1 e => ?_)
  cases c with
  | true=>exact isTrue_and_nil e
  | false=>exact e
theorem vq(ha:PT X a tA):PW X (.BoolOp .Or [a] pos) tA:=by
  intro wh pins s σ H Q I h;refine isTrue_or (thn (ha pins s σ H Q I h) fun c s1 e => ?_)
  cases c with
  | false=>exact isTrue_or_nil e
  | true=>exact e
theorem zc0(ha:PT X a tA)(hb:PW X (.BoolOp .And (b::rest) pos) tB'):PW X (.BoolOp .And (a::b::rest) pos) (tAnd tA tB'):=by
  intro wh pins s σ H Q I h;refine isTrue_and (thn (ha pins s σ H _ I h) fun c s1 ⟨H1,I1,q1⟩ => ?_)
  cases c with
  | true=>exact hb wh pins s1 σ H1 Q I1 q1
  | false=>exact⟨H1,I1,q1⟩
theorem ui(ha:PT X a tA)(hb:PW X (.BoolOp .Or (b::rest) pos) tB'):PW X (.BoolOp .Or (a::b::rest) pos) (tOr tA tB'):=by
  intro wh pins s σ H Q I h;refine isTrue_or (thn (ha pins s σ H _ I h) fun c s1 ⟨H1,I1,q1⟩ => ?_)
  cases c with
  | true=>exact⟨H1,I1,q1⟩
  | false=>exact hb wh pins s1 σ H1 Q I1 q1
theorem yv(ha:PT X a tA):PT X (.UnaryOp .Not a pos) (tNot tA):=by
  intro pins s σ H Q I h;exact isTrue_not (ha pins s σ H (fun c H1=>Q (!c) H1) I h)
def tAndV(ta tb:TE):TE:=fun σ H Q=>ta σ H fun x H1=>∃c,x=.bl c/\if c=true then tb σ H1 Q else Q (.bl false) H1
def tOrV(ta tb:TE):TE:=fun σ H Q=>ta σ H fun x H1=>∃c,x=.bl c/\if c=true then Q (.bl true) H1 else tb σ H1 Q
def tNotV(ta:TE):TE:=fun σ H Q=>ta σ H fun x H1=>∃c,x=.bl c/\Q (.bl (!c)) H1
theorem u9{op}{t:TE}(h:PE X a t):PE X (.BoolOp op [a] pos) t:=fun pins s σ H Q I hw=>BoolOp_one (h pins s σ H Q I hw)
theorem uy(ha:PE X a ta)(hb:PE X (.BoolOp .And (b::rest) pos) tb):PE X (.BoolOp .And (a::b::rest) pos) (tAndV ta tb):=by
  intro pins s σ H Q I h;refine BoolOp_and (thn (ha pins s σ H _ I h) fun v s1 ⟨x,H1,I1,r1,q1⟩ => ?_);obtain⟨c,rfl,q1⟩:=q1;cases r1;refine wpAny_truthy_bool ?_
  cases c with
  | true=>exact hb pins s1 σ H1 Q I1 q1
  | false=>exact⟨.bl false,H1,I1,rfl,q1⟩
theorem pe_or(ha:PE X a ta)(hb:PE X (.BoolOp .Or (b::rest) pos) tb):PE X (.BoolOp .Or (a::b::rest) pos) (tOrV ta tb):=by
  intro pins s σ H Q I h;refine BoolOp_or (thn (ha pins s σ H _ I h) fun v s1 ⟨x,H1,I1,r1,q1⟩ => ?_);obtain⟨c,rfl,q1⟩:=q1;cases r1;refine wpAny_truthy_bool ?_
  cases c with
  | false=>exact hb pins s1 σ H1 Q I1 q1
  | true=>exact⟨.bl true,H1,I1,rfl,q1⟩
theorem zhr(ha:PE X a ta):PE X (.UnaryOp .Not a pos) (tNotV ta):=by
  intro pins s σ H Q I h;refine UnaryOp_ (thn (ha pins s σ H _ I h) fun v s1 ⟨x,H1,I1,r1,q1⟩ => ?_);obtain⟨c,rfl,q1⟩:=q1;cases r1;exact not_of (wpAny_truthy_bool ⟨.bl (!c),H1,I1,rfl,q1⟩)
def tIf(t:TT)(ta tb:TE):TE:=fun σ H Q=>t σ H fun c H1=>if c=true then ta σ H1 Q else tb σ H1 Q
theorem zj8{c:Expr}(hc:PT X c tA)(ha:PE X a ta)(hb:PE X b tb):PE X (.IfExp c a b pos) (tIf tA ta tb):=by
  intro pins s σ H Q I h;refine wpAny_IfExp (thn (hc pins s σ H _ I h) fun d s1 ⟨H1,I1,q1⟩ => ?_)
  cases d with
  | true=>exact ha pins s1 σ H1 Q I1 q1
  | false=>exact hb pins s1 σ H1 Q I1 q1
end
end L2
namespace L2
open PySem PySem.Spec PyProof.Rows
def SqL(K:Fg)(H:Hp)(a:Addr)(xs:List V):Prop :=
  Rd H a (.lst xs) \/
    ∃(o:Obj) (its:Array Value) (n:Nat),K.lookup a=some o/\o.cls=.type "list" /\ o.dict=none/\o.data=.seq its n/\its.size<=sizeLine/\Vals xs its.toList
def SqT(K:Fg)(H:Hp)(a:Addr)(xs:List V):Prop :=
  Rd H a (.tup xs) \/
    ∃(o:Obj) (its:Array Value) (n:Nat),K.lookup a=some o/\o.cls=.type "tuple" /\ o.data=.seq its n/\its.size<=sizeLine/\Vals xs its.toList
def absV:Value->Option V
  | .none=>some .non
  | .bool b=>some (.bl b)
  | .int i _=>some (.int i)
  | .str x _=>some (.str x)
  | .bytes b _=>some (.byt b)
  | .float b _=>some (.flt b)
  | .ref a=>some (.ref a)
  | .type n=>some (.ty n)
  | _=>none
theorem RelV.abs{x:V}{u:Value}(r:RelV x u):absV u=some x:=by
  cases x with
  | non=>cases r;rfl
  | bl _=>cases r;rfl
  | int _=>obtain⟨t,rfl⟩:=r;rfl
  | str _=>obtain⟨t,rfl⟩:=r;rfl
  | byt _=>obtain⟨t,rfl⟩:=r;rfl
  | flt _=>obtain⟨t,rfl⟩:=r;rfl
  | ref _=>cases r;rfl
  | ty _=>cases r;rfl
theorem RelV.inj{x y:V}{u:Value}(r:RelV x u)(q:RelV y u):x=y:=Option.some.inj (r.abs.symm.trans q.abs)
theorem Vals.inj:∀{xs ys:List V} {us:List Value},Vals xs us->Vals ys us->xs=ys
  | _,_,_,.nil,.nil=>rfl
  | _,_,_,.cons r t,.cons r' t'=>by rw[r.inj r',Vals.inj t t']
section
variable{X:Cx}{pins:List (Addr×Obj)}{σ:St}{H:Hp}{s:Shared}{a:Addr}{xs ys:List V}
theorem SqL.of{K:Fg}(h:H a=some (.lst xs)):SqL K H a xs:=.inl (.inl h)
theorem SqT.of{K:Fg}(h:H a=some (.tup xs)):SqT K H a xs:=.inl (.inl h)
theorem Inv.list(I:Inv X pins σ H s)(h:SqL X.K H a xs):∃its:List Value,Vals xs its/\PlainL s.heap a its.toArray/\xs.length<=sizeLine:=by
  rcases h with h | ⟨o,its,n,hk,hc,hd,hs,hz,r⟩
  . obtain⟨z,its,n,r,e⟩:=h.ok I.hok
    exact⟨its,r,⟨_,n,e,rfl,rfl,rfl⟩,z⟩
  . refine⟨its.toList,r,⟨o,n,I.kIn a o hk,hc,hd,by simpa using hs⟩,?_⟩
    have e:=r.length;simp only[Yj]at e;omega
theorem Inv.tuple(I:Inv X pins σ H s)(h:SqT X.K H a xs):∃its:List Value,Vals xs its/\IsTup s.heap a its.toArray/\xs.length<=sizeLine:=by
  rcases h with h | ⟨o,its,n,hk,hc,hs,hz,r⟩
  . obtain⟨z,its,r,p⟩:=h.ok I.hok
    exact⟨its,r,p.tup,z⟩
  . refine⟨its.toList,r,⟨o,I.kIn a o hk,hc,n,by simpa using hs⟩,?_⟩
    have e:=r.length;simp only[Yj]at e;omega
theorem Inv.list_inj(I:Inv X pins σ H s)(h:SqL X.K H a xs)(h':SqL X.K H a ys):xs=ys:=by
  obtain⟨its,r,⟨o,n,e,_,_,d⟩,_⟩:=I.list h;obtain⟨its',r',⟨o',n',e',_,_,d'⟩,_⟩:=I.list h';rw[e]at e';cases e';rw[d]at d'
  injection d' with d1 _
  have:its=its':=by simpa using congrArg Array.toList d1
  subst this;exact r.inj r'
theorem Inv.tuple_inj(I:Inv X pins σ H s)(h:SqT X.K H a xs)(h':SqT X.K H a ys):xs=ys:=by
  obtain⟨its,r,⟨o,e,_,n,d⟩,_⟩:=I.tuple h;obtain⟨its',r',⟨o',e',_,n',d'⟩,_⟩:=I.tuple h';rw[e]at e';cases e';rw[d]at d'
  injection d' with d1 _
  have:its=its':=by simpa using congrArg Array.toList d1
  subst this;exact r.inj r'
end
abbrev Cx.wish(X:Cx)(E:Value->Shared->Prop):Cx:={ X with xe:=E }
abbrev Cx.nox(X:Cx):Cx:=X.wish fun _ _=>False
theorem Cx.Ok.wish{X:Cx}(ok:X.Ok)(E:Value->Shared->Prop):(X.wish E).Ok :=
  ⟨ok.mod,ok.kind,ok.glob,ok.blt,ok.above,ok.inj,ok.has,ok.cab,ok.hd,ok.frames,ok.stk,ok.exf,ok.bs,ok.bsz,ok.noex,ok.exfs,ok.funs,ok.frf⟩
theorem Cx.Ok.unwish{X:Cx}{E:Value->Shared->Prop}(ok:(X.wish E).Ok):X.Ok :=
  ⟨ok.mod,ok.kind,ok.glob,ok.blt,ok.above,ok.inj,ok.has,ok.cab,ok.hd,ok.frames,ok.stk,ok.exf,ok.bs,ok.bsz,ok.noex,ok.exfs,ok.funs,ok.frf⟩
section
variable{X:Cx}{pins:List (Addr×Obj)}{σ:St}{H:Hp}{s:Shared}{E:Value->Shared->Prop}
theorem Inv.wish(I:Inv X pins σ H s)(E:Value->Shared->Prop):Inv (X.wish E) pins σ H s:=⟨I.ok.wish E,I.os,I.bare,I.base,I.loc,I.cell,I.free,I.freeC,I.pin,I.hok,I.len⟩
theorem Inv.unwish(I:Inv (X.wish E) pins σ H s):Inv X pins σ H s:=⟨I.ok.unwish,I.os,I.bare,I.base,I.loc,I.cell,I.free,I.freeC,I.pin,I.hok,I.len⟩
theorem SP.unwish{D:Ends}{f:Flow}{s':Shared}(h:SP (X.wish E) pins D f s'):SP X pins D f s':=by
  cases f with
  | next=>obtain⟨σ',H',I,q⟩:=h;exact⟨σ',H',I.unwish,q⟩
  | brk=>obtain⟨σ',H',I,q⟩:=h;exact⟨σ',H',I.unwish,q⟩
  | cont=>obtain⟨σ',H',I,q⟩:=h;exact⟨σ',H',I.unwish,q⟩
  | ret u=>obtain⟨v,σ',H',I,r,q⟩:=h;exact⟨v,σ',H',I.unwish,r,q⟩
theorem PSs.nox{st:List Stmt}{t:TS}(h:PSs X.nox st t):PSs X st t:=fun pins s σ H D I hw =>
  wpAny_mono (h pins s σ H D (I.wish _) hw) (fun _ _ q=>q.unwish) fun _ _ z=>False.elim z
end
section
variable{X:Cx}{st:Stmt}{rest:List Stmt}{t u:TS}{e:Expr}{te:TE}{pos:Pos}
def tNext:TS:=fun D σ H=>D.nx σ H
def tSeq(t u:TS):TS:=fun D σ H=>t { D with nx:=u D } σ H
theorem z7:PSs X [] tNext:=fun _ _ σ H _ I h=>wpAny_execs_nil ⟨σ,H,I,h⟩
theorem ze(h1:PS X st t)(h2:PSs X rest u):PSs X (st::rest) (tSeq t u):=by
  intro pins s σ H D I h;refine wpAny_execs_cons (thn (h1 pins s σ H { D with nx:=u D } I h) fun f s1 q => ?_)
  cases f with
  | next =>
    obtain⟨σ',H',I',q⟩:=q;exact h2 pins s1 σ' H' D I' q
  | ret v=>exact q
  | brk=>exact q
  | cont=>exact q
theorem zd(h1:PS X st t):PSs X [st] t:=by
  intro pins s σ H D I h;refine wpAny_execs_cons (thn (h1 pins s σ H D I h) fun f s1 q => ?_)
  cases f with
  | next=>exact wpAny_execs_nil q
  | ret v=>exact q
  | brk=>exact q
  | cont=>exact q
def tBreak:TS:=fun D σ H=>D.bk σ H
def tCont:TS:=fun D σ H=>D.ct σ H
theorem Inv.quiet{pins:List (Addr×Obj)}{σ:St}{H:Hp}{s:Shared}(I:Inv X pins σ H s):interactive X.env=false:=by simp[interactive,I.ok.kind]
def tDrop(te:TE):TS:=fun D σ H=>te σ H fun _ H1=>D.nx σ H1
theorem vx(he:PE X e te)(hs:swapsWith e none pos.line X.env=pure false:=by rfl):PS X (.Expr e pos) (tDrop te):=by
  intro pins s σ H D I h;exact wpAny_Expr_any (thn (he pins s σ H _ I h) fun v s1 ⟨x,H1,I1,r1,q1⟩=>⟨σ,H1,I1,q1⟩) I.quiet hs
def tRet(te:TE):TS:=fun D σ H=>te σ H D.rt
theorem zp(he:PE X e te):PS X (.Return (some e) pos) (tRet te):=by
  intro pins s σ H D I h;exact wpAny_Return_some (thn (he pins s σ H _ I h) fun v s1 ⟨x,H1,I1,r1,q1⟩=>⟨x,σ,H1,I1,r1,q1⟩)
def tRetN:TS:=fun D _ H=>D.rt .non H
def tIfS(c:TT)(t u:TS):TS:=fun D σ H=>c σ H fun b H1=>if b=true then t D σ H1 else u D σ H1
theorem yh{c:Expr}{a b:List Stmt}{tc:TT}(hc:PT X c tc)(ha:PSs X a t)(hb:PSs X b u):PS X (.If c a b pos) (tIfS tc t u):=by
  intro pins s σ H D I h;refine wpAny_If (thn (hc pins s σ H _ I h) fun d s1 ⟨H1,I1,q1⟩ => ?_)
  cases d with
  | true=>exact ha pins s1 σ H1 D I1 q1
  | false=>exact hb pins s1 σ H1 D I1 q1
end
abbrev TG:=V->St->Hp->(St->Hp->Prop)->Prop
abbrev TGs:=List V->St->Hp->(St->Hp->Prop)->Prop
def PG(X:Cx)(target:Expr)(t:TG):Prop :=
  ∀(pins:List (Addr×Obj)) (s:Shared) (σ:St) (H:Hp) (v:V) (u:Value) (Q:St->Hp->Prop),Inv X pins σ H s->RelV v u->t v σ H Q ->
    wpAny (model X.prog X.w) X.A (assign target X.env u) (fun _ s'=>∃σ' H',Inv X pins σ' H' s'/\Q σ' H') X.xe s
def PGs(X:Cx)(ts:List Expr)(t:TGs):Prop :=
  ∀(pins:List (Addr×Obj)) (s:Shared) (σ:St) (H:Hp) (vs:List V) (us:List Value) (Q:St->Hp->Prop),Inv X pins σ H s->Vals vs us->t vs σ H Q ->
    wpAny (model X.prog X.w) X.A (assignInOrder ((assignEach ts X.env).map (·.2)) us) (fun _ s'=>∃σ' H',Inv X pins σ' H' s'/\Q σ' H') X.xe s
abbrev TSet:=V->V->V->Hp->(Hp->Prop)->Prop
def PSet(X:Cx)(t:TSet):Prop :=
  ∀(pins:List (Addr×Obj)) (s:Shared) (σ:St) (H:Hp) (o i v:V) (ov iv u:Value) (Q:Hp->Prop),Inv X pins σ H s->RelV o ov->RelV i iv->RelV v u->t o i v H Q ->
    wpAny (model X.prog X.w) X.A (setItem ov iv u) (fun _ s'=>∃H',Inv X pins σ H' s'/\Q H') X.xe s
abbrev TIp:=V->V->Hp->VK->Prop
section
variable{X:Cx}{pos:Pos}
def zb1(i:Nat):TG:=fun v σ H Q=>Q (σ.set i (some v)) H
theorem zw{i:Nat}{x:Str}(hN:X.N.Nodup)(hi:X.N[i]? = some x)(hx:Loc X.env.scope x)(hf:X.fn x=true\/X.env.scope.names.lookup x=some .local:=by first | exact .inl rfl | exact .inr rfl | assumption):PG X (.Name x pos) (zb1 i):=by
  intro pins s σ H v u Q I r h;exact wpAny_assign_Name (js I hN hi hx r (fun s' I'=>⟨_,H,I',h⟩) hf)
def gNil:TGs:=fun vs σ H Q=>vs=[]/\Q σ H
def gCons(t:TG)(u:TGs):TGs:=fun vs σ H Q=>∃v r,vs=v::r/\t v σ H fun σ' H'=>u r σ' H' Q
theorem au:PGs X [] gNil:=by
  intro pins s σ H vs us Q I r h;obtain⟨e,h⟩:=h;subst e;cases r;exact assignInOrder_nil ⟨σ,H,I,h⟩
theorem si{e:Expr}{es:List Expr}{t:TG}{u:TGs}(h1:PG X e t)(h2:PGs X es u)
    (hs:(assignEach (e::es) X.env).map (·.2)=assign e X.env::(assignEach es X.env).map (·.2):=by rfl):PGs X (e::es) (gCons t u):=by
  intro pins s σ H vs us Q I r h;obtain⟨v,vr,e1,h⟩:=h;subst e1
  cases r with
  | cons r rr =>
    rw[hs];refine assignInOrder_cons (thn (h1 pins s σ H _ _ _ I r h) fun _ s1 ⟨σ1,H1,I1,q1⟩ => ?_);exact h2 pins s1 σ1 H1 _ _ Q I1 rr q1
def gTup(K:Fg)(n:Nat)(t:TGs):TG:=fun v σ H Q=>∃a xs,v=.ref a/\SqT K H a xs/\xs.length=n/\t xs σ H Q
theorem zcs{es:List Expr}{k:Nat}{t:TGs}{n:Nat}(hc:X.calm=true)(h:PGs X es t)
    (hn:(assignEach es X.env).length=n:=by rfl) (hst:(assignEach es X.env).findIdx? (·.1)=none:=by rfl):PG X (.Tuple es k pos) (gTup X.K n t):=by
  intro pins s σ H v u Q I r hw;obtain⟨a,xs,e1,hq,hl,hw⟩:=hw;subst e1;cases r;obtain⟨its,rv,ht,hz⟩:=I.tuple hq;refine assign_Tuple_tuple (I.ok.hd hc) ht (by simp[hn,<-hl,rv.length]) hst fun h' hx => ?_
  have I1:Inv X pins σ H { s with heap:=h' }:=I.kept (t':=s.toks) fun b o e=>hx b o (Zs (Heap.lt_size e)) e
  exact h pins _ σ H xs _ Q I1 (by simpa using rv) hw
def gSub(to ti:TE)(t:TSet):TG:=fun v σ H Q=>to σ H fun o H1=>ti σ H1 fun i H2=>t o i v H2 fun H3=>Q σ H3
theorem pg_sub{o i:Expr}{to ti:TE}{t:TSet}(ho:PE X o to)(hi:PE X i ti)(hs:PSet X t)
    (ha:∀v,assign (.Subscript o i pos) X.env v=(do
      let ov <-holding [v] (eval o X.env)
      let iv <-holding [v,ov] (eval i X.env)
      standAt pos
      holding [v,ov,iv] (setItem ov iv v)
      release [v,ov,iv] []):=by intro _;rfl):PG X (.Subscript o i pos) (gSub to ti t):=by
  intro pins s σ H v u Q I r h;rw[ha];refine wpAny_bind (wpAny_holding (thn (ho pins s σ H _ I h) fun ov s1 ⟨x,H1,I1,r1,q1⟩ => ?_));refine wpAny_bind (wpAny_holding (thn (hi pins s1 σ H1 _ I1 q1) fun iv s2 ⟨y,H2,I2,r2,q2⟩ => ?_));refine wpAny_bind (wpAny_standAt (wpAny_bind (wpAny_holding (thn (hs pins s2 σ H2 x y v ov iv u _ I2 r1 r2 r q2) fun _ s3 ⟨H3,I3,q3⟩ => ?_))));exact wpAny_release ⟨σ,H3,I3,q3⟩
def tAsg(te:TE)(g:TG):TS:=fun D σ H=>te σ H fun x H1=>g x σ H1 D.nx
theorem ps_asg{tg e:Expr}{te:TE}{g:TG}(he:PE X e te)(hg:PG X tg g)(hs:swapsWithSole [tg] e pos.line X.env=pure false:=by rfl)(hw:swappedStores [tg] e X.env=pure none:=by rfl)
    (h1:(assignEach [tg] X.env).map (·.2)=[assign tg X.env]:=by rfl):PS X (.Assign [tg] e pos) (tAsg te g):=by
  intro pins s σ H D I h;refine wpAny_Assign_stores (thn (he pins s σ H _ I h) fun v s1 ⟨x,H1,I1,r1,q1⟩ => ?_) hs hw;rw[h1];exact thn (hg pins s1 σ H1 x v _ I1 r1 q1) fun _ s2 q=>q
theorem zz{i:Nat}{x:Str}{e:Expr}{te:TE}{pos':Pos}(hN:X.N.Nodup)(hi:X.N[i]? = some x)(hx:Loc X.env.scope x)(he:PE X e te)(hs:swapsWith e (some (.Name x pos')) pos.line X.env=pure false:=by rfl)(hf:X.fn x=true\/X.env.scope.names.lookup x=some .local:=by first | exact .inl rfl | exact .inr rfl | assumption) :
    PS X (.Assign [.Name x pos'] e pos) (tAsg te (zb1 i)):=by
  intro pins s σ H D I h;refine wpAny_Assign_Name (thn (he pins s σ H _ I h) fun v s1 ⟨y,H1,I1,r1,q1⟩ => ?_) hs;exact js I1 hN hi hx r1 (fun s2 I2=>⟨_,H1,I2,q1⟩) hf
def tAugS(to ti te:TE)(tget:V->V->Hp->VK->Prop)(tip:TIp)(tset:TSet):TS:=fun D σ H=>to σ H fun o H1=>ti σ H1 fun i H2=>tget o i H2 fun x H3=>te σ H3 fun y H4=>tip x y H4 fun z H5=>tset o i z H5 fun H6=>D.nx σ H6
def ipI(f:Int->Int->Int):TIp:=fun x y H Q=>∃i j,x=.int i/\y=.int j/\Q (.int (f i j)) H
end
section
variable{X:Cx}{pos:Pos}
end
structure It where
  go:Nat->Hp->Prop
  yld:Nat->Hp->V->Hp->Prop
  stop:Nat->Hp->Prop
def FpOk(X:Cx)(pins:List (Addr×Obj))(H:Hp)(b:Addr):Prop :=
  H b=none/\b≠X.env.locals/\b∉X.fs/\(b∈X.ex\/X.s₀.heap.objs.size<=b)/\(∀x c,X.env.cells.lookup x=some c->c≠b)/\∀p∈X.pn++pins,p.1≠b
theorem Inv.fpOk{X:Cx}{pins:List (Addr×Obj)}{σ:St}{H H':Hp}{s:Shared}{b:Addr}(I:Inv X pins σ H s)(hb:s.heap.objs.size<=b)(hn:H' b=none):FpOk X pins H' b:=by
  refine⟨hn,Yb (Zh I.lt hb),I.nofs hb,.inr (Zd I.sz hb),fun x c e z => ?_,fun p hp z => ?_⟩
  . obtain⟨v,q⟩:=I.cell x c e
    exact absurd (Zh q.lt (by rw[z];exact hb)) (ZJ _)
  . exact absurd (Zh (Heap.lt_size (I.pin p hp).1) (by rw[z];exact hb)) (ZJ _)
structure Turn(P:Program)(w:World)(K:Fg)(tg:Expr)(J:It)(fp:List Addr)(it:Addr)(tn:Nat->Heap->Prop):Prop where
  mem:it∈fp
  obj:∀i h,tn i h->∀b∈fp,∃o,h.get? b=some o/\∀v,o.data≠.cell v
  keep:∀i h h',tn i h->(∀b∈fp,∀o,h.get? b=some o->h'.get? b=some o)->tn i h'
  item:∀(X:Cx),X.prog=P->X.w=w->X.K=K->X.calm=true->∀(i:Nat) (pins:List (Addr×Obj)) (s:Shared) (σ:St) (H:Hp) (E:Value->Shared->Prop),Inv X pins σ H s->(∀b∈fp,FpOk X pins H b)->tn i s.heap->J.go i H ->
    wpAny (model P w) X.A (pyNext (.ref it)) (fun r s1=>∃u,r=some u /\
      wpAny (model P w) X.A (letOwnedTupleGo tg (.ref it) u) (fun _ s2=>∃x H',Inv X pins σ H' s2/\RelV x u/\J.yld i H x H'/\tn (i+1) s2.heap/\∀b∈fp,H' b=none) E s1) E s
  done:∀(X:Cx),X.prog=P->X.w=w->X.K=K->X.calm=true->∀(i:Nat) (pins:List (Addr×Obj)) (s:Shared) (σ:St) (H:Hp) (E:Value->Shared->Prop),Inv X pins σ H s->(∀b∈fp,FpOk X pins H b)->tn i s.heap->J.stop i H ->
    wpAny (model P w) X.A (pyNext (.ref it)) (fun r s1=>r=none/\Inv X pins σ H s1) E s
  self:∀(A:Around) (i:Nat) (s:Shared) (Q:Value->Shared->Prop) (E:Value->Shared->Prop),tn i s.heap->Q (.ref it) s->wpAny (model P w) A (pyIter (.ref it)) Q E s
abbrev TI:=St->Hp->(It->Hp->Prop)->Prop
def PIE(X:Cx)(pins:List (Addr×Obj))(σ:St)(tg:Expr)(R:It->Hp->Prop)(itv:Value)(s2:Shared):Prop :=
  ∃(it:Addr) (fp:List Addr) (tn:Nat->Heap->Prop) (J:It) (H':Hp),itv=.ref it/\Inv X pins σ H' s2/\Turn X.prog X.w X.K tg J fp it tn/\tn 0 s2.heap/\(∀b∈fp,FpOk X pins H' b)/\R J H'
def PI(X:Cx)(tg iter:Expr)(wi:TI):Prop :=
  ∀(pins:List (Addr×Obj)) (s:Shared) (σ:St) (H:Hp) (R:It->Hp->Prop),Inv X pins σ H s->wi σ H R ->
    wpAny (model X.prog X.w) X.A (eval iter X.env) (fun v s1=>wpAny (model X.prog X.w) X.A (pyIter v) (PIE X pins σ tg R) X.xe s1) X.xe s
theorem bu{M:Model}{A:Around}{E:Value->Shared->Prop}{s:Shared}{tg:Expr}{it:Addr}{u:Value}{o:Obj}{n:String}{vs:Array Value}{Q:Unit->Shared->Prop}(ho:s.heap.get? it=some o)(hc:o.cls=.type n)(hd:o.data=.fields vs)
    (hn:["enumerate", "zip", "dict_itemiterator", "dict_reverseitemiterator", "odict_iterator", "itertools.zip_longest", "itertools.pairwise"].contains n=false) (hQ:Q () s):wpAny M A (letOwnedTupleGo tg (.ref it) u) Q E s:=by
  unfold letOwnedTupleGo
  cases tg <;> first
    | exact wpAny_pure hQ
    | (cases u <;> first
        | exact wpAny_pure hQ
        | (refine wpAny_bind (wpAny_load ho ?_)
           rw[hc,hd]
           show wpAny M A (if (["enumerate", "zip", "dict_itemiterator", "dict_reverseitemiterator", "odict_iterator", "itertools.zip_longest", "itertools.pairwise"].contains n&&vs[0]? == some (rawInt _))=true then _ else _) Q E s
           rw[if_neg (by intro h;rw[hn,Bool.false_and]at h;cases h)]
           exact wpAny_pure hQ))
def Itl(K:Fg)(a:Addr):It :=
  ⟨fun i H=>∃xs x,SqL K H a xs/\xs[i]? = some x,fun i H x H'=>H'=H/\∀xs,SqL K H a xs->xs[i]? = some x,fun i H=>∃xs,SqL K H a xs/\xs.length<=i⟩
def Itt(K:Fg)(a:Addr):It :=
  ⟨fun i H=>∃xs x,SqT K H a xs/\xs[i]? = some x,fun i H x H'=>H'=H/\∀xs,SqT K H a xs->xs[i]? = some x,fun i H=>∃xs,SqT K H a xs/\xs.length<=i⟩
def Itr(lo:Int)(n:Nat):It:=⟨fun i _=>i<n,fun i H x H'=>H'=H/\x=.int (lo+i),fun i _=>n<=i⟩
theorem za8{P:Program}{w:World}{K:Fg}{tg:Expr}(a it:Addr):Turn P w K tg (Itl K a) [it] it (fun i h=>h.IsListIter it a i) where
  mem:=by simp
  obj:=fun i h st b hb=>by
    have e:b=it:=by simpa using hb
    subst e;obtain⟨o,e,c,d⟩:=st;exact⟨o,e,fun v z=>by rw[d]at z;cases z⟩
  keep:=fun i h h' st k=>st.at fun o e=>k it (by simp) o e
  item:=by
    intro X hP hw hK hc i pins s σ H E I hf st hg;subst hP hw hK;obtain⟨xs,x,hq,hx⟩:=hg;obtain⟨its,rv,p,hz⟩:=I.list hq;obtain⟨u,hu,ru⟩:=rv.get hx;obtain⟨f0,f1,f2,f3,f4,f5⟩:=hf it (by simp);refine wpAny_pyNext_list_item st p.isList (x:=u) (by simpa using hu) fun h' st' sb => ?_
    have I1:Inv X pins σ H { s with heap:=h' }:=I.turned (t':=s.toks) (fun b o hb e=>(sb.2 b hb).trans e) f0 f1 f3 f4 f5;obtain⟨o,e,c,d⟩:=id st';exact⟨u,rfl,bu (s:={ s with heap:=h' }) e c d (by decide) ⟨x,H,I1,ru,⟨rfl,fun ys hy=>by rw[I.list_inj hy hq];exact hx⟩,st',fun b hb=>(hf b hb).1⟩⟩
  done:=by
    intro X hP hw hK hc i pins s σ H E I hf st hg;subst hP hw hK;obtain⟨xs,hq,hx⟩:=hg;obtain⟨its,rv,p,hz⟩:=I.list hq;obtain⟨f0,f1,f2,f3,f4,f5⟩:=hf it (by simp);have hl:=rv.length;exact wpAny_pyNext_list_end (I.ok.hd hc) st p.isList (by simp;omega) fun h' eb=>⟨rfl,I.turned (t':=s.toks) (fun b o hb e=>eb b o hb e) f0 f1 f3 f4 f5⟩
  self:=fun _ _ _ _ _ st h=>wpAny_pyIter_listiter st h
theorem bp{P:Program}{w:World}{K:Fg}{tg:Expr}(a it:Addr):Turn P w K tg (Itt K a) [it] it (fun i h=>h.IsTupleIter it a i) where
  mem:=by simp
  obj:=fun i h st b hb=>by
    have e:b=it:=by simpa using hb
    subst e;obtain⟨o,e,c,d⟩:=st;exact⟨o,e,fun v z=>by rw[d]at z;cases z⟩
  keep:=fun i h h' st k=>st.at fun o e=>k it (by simp) o e
  item:=by
    intro X hP hw hK hc i pins s σ H E I hf st hg;subst hP hw hK;obtain⟨xs,x,hq,hx⟩:=hg;obtain⟨its,rv,p,hz⟩:=I.tuple hq;obtain⟨u,hu,ru⟩:=rv.get hx;obtain⟨f0,f1,f2,f3,f4,f5⟩:=hf it (by simp);refine wpAny_pyNext_tuple_item st (show s.heap.IsTuple a its.toArray from p) (x:=u) (by simpa using hu) fun h' st' sb => ?_
    have I1:Inv X pins σ H { s with heap:=h' }:=I.turned (t':=s.toks) (fun b o hb e=>(sb.2 b hb).trans e) f0 f1 f3 f4 f5;obtain⟨o,e,c,d⟩:=id st';exact⟨u,rfl,bu (s:={ s with heap:=h' }) e c d (by decide) ⟨x,H,I1,ru,⟨rfl,fun ys hy=>by rw[I.tuple_inj hy hq];exact hx⟩,st',fun b hb=>(hf b hb).1⟩⟩
  done:=by
    intro X hP hw hK hc i pins s σ H E I hf st hg;subst hP hw hK;obtain⟨xs,hq,hx⟩:=hg;obtain⟨its,rv,p,hz⟩:=I.tuple hq;obtain⟨f0,f1,f2,f3,f4,f5⟩:=hf it (by simp);have hl:=rv.length;exact wpAny_pyNext_tuple_end (I.ok.hd hc) st (show s.heap.IsTuple a its.toArray from p) (by simp;omega) fun h' eb=>⟨rfl,I.turned (t':=s.toks) (fun b o hb e=>eb b o hb e) f0 f1 f3 f4 f5⟩
  self:=fun _ _ _ _ _ st h=>wpAny_pyIter_tupleiter st h
theorem zgv{P:Program}{w:World}{K:Fg}{tg:Expr}(it:Addr)(lo:Int)(n:Nat):Turn P w K tg (Itr lo n) [it] it (fun i h=>IsRangeIter h it (lo+(i:Nat)*1) ((n:Int)-(i:Nat)) 1) where
  mem:=by simp
  obj:=fun i h st b hb=>by
    have e:b=it:=by simpa using hb
    subst e
    exact⟨_,st,fun v z=>by
      have z':Data.fields _=Data.cell v:=z
      cases z'⟩
  keep:=fun i h h' st k=>k it (by simp) _ st
  item:=by
    intro X hP hw hK hc i pins s σ H E I hf st hg;subst hP hw hK;obtain⟨f0,f1,f2,f3,f4,f5⟩:=hf it (by simp);have W:=Walks.range (prog:=X.prog) (w:=X.w) (I.ok.hd hc) it lo 1 n;refine W.item i s _ _ hg st fun v h' tk hv st' kk => ?_
    obtain⟨t,rfl⟩:=hv;have I1:Inv X pins σ H { s with heap:=h',toks:=tk }:=I.turned (fun b o hb e=>kk b o (by simpa using hb) e) f0 f1 f3 f4 f5;refine⟨_,rfl,bu (s:={ s with heap:=h',toks:=tk }) (n := "range_iterator") st' rfl rfl (by decide) ⟨.int (lo+i),H,I1,⟨t,?_⟩,⟨rfl,rfl⟩,st',fun b hb=>(hf b hb).1⟩⟩;rw[Int.mul_one]
  done:=by
    intro X hP hw hK hc i pins s σ H E I hf st hg;subst hP hw hK;obtain⟨f0,f1,f2,f3,f4,f5⟩:=hf it (by simp);exact wpAny_pyNext_range_end (I.ok.hd hc) st (by have:n<=i:=hg;omega) fun h' eb=>⟨rfl,I.turned (t':=s.toks) (fun b o hb e=>eb b o hb e) f0 f1 f3 f4 f5⟩
  self:=fun _ _ _ _ _ st h=>wpAny_pyIter_rangeiter st h
end L2
namespace L2
open PySem PySem.Spec PyProof.Rows
section
variable{X:Cx}{tg:Expr}
def iList(K:Fg)(tl:TE):TI:=fun σ H R=>tl σ H fun x H1=>∃a,x=.ref a/\(∃xs,SqL K H1 a xs)/\R (Itl K a) H1
def iTup(K:Fg)(tl:TE):TI:=fun σ H R=>tl σ H fun x H1=>∃a,x=.ref a/\(∃xs,SqT K H1 a xs)/\R (Itt K a) H1
theorem ye{l:Expr}{tl:TE}(hl:PE X l tl):PI X tg l (iList X.K tl):=by
  intro pins s σ H R I h;refine thn (hl pins s σ H _ I h) fun v s1 ⟨x,H1,I1,r1,q1⟩ => ?_
  obtain⟨a,e,⟨xs,hq⟩,q⟩:=q1;subst e;cases r1;obtain⟨its,rv,p,hz⟩:=I1.list hq;refine wpAny_pyIter_list p.isList ?_;refine⟨s1.heap.objs.size,[s1.heap.objs.size],_,_,H1,rfl,I1.kept (t':=s1.toks) fun b o e=>Heap.get?_push_of_some _ e,za8 a _,⟨_,Heap.get?_push_size _ rfl,rfl,rfl⟩,fun b hb => ?_,q⟩;have e:b=s1.heap.objs.size:=by simpa using hb
  subst e;exact I1.fpOk (Zm _) (I1.hok.fresh (Zm _))
theorem zcl{l:Expr}{tl:TE}(hl:PE X l tl):PI X tg l (iTup X.K tl):=by
  intro pins s σ H R I h;refine thn (hl pins s σ H _ I h) fun v s1 ⟨x,H1,I1,r1,q1⟩ => ?_
  obtain⟨a,e,⟨xs,hq⟩,q⟩:=q1;subst e;cases r1;obtain⟨its,rv,p,hz⟩:=I1.tuple hq;refine wpAny_pyIter_tuple (show s1.heap.IsTuple a its.toArray from p) ?_;refine⟨s1.heap.objs.size,[s1.heap.objs.size],_,_,H1,rfl,I1.kept (t':=s1.toks) fun b o e=>Heap.get?_push_of_some _ e,bp a _,⟨_,Heap.get?_push_size _ rfl,rfl,rfl⟩,fun b hb => ?_,q⟩;have e:b=s1.heap.objs.size:=by simpa using hb
  subst e;exact I1.fpOk (Zm _) (I1.hok.fresh (Zm _))
theorem zj5{pins:List (Addr×Obj)}{σ:St}{H:Hp}{s:Shared}{R:It->Hp->Prop}{E:Value->Shared->Prop}{lo hi:Int}{t u v:Tok}{tk:Nat}(I:Inv X pins σ H s)(h1 : -(2^62)<=lo)(h2:lo<2^62)(h3 : -(2^62)<=hi)(h4:hi<2^62)
    (q:R (Itr lo (hi-lo).toNat) H):wpAny (model X.prog X.w) X.A (pyIter (.ref s.heap.objs.size)) (PIE X pins σ tg R) E { s with heap:=s.heap.push { cls:=.type "range", data:=.fields #[.int lo t,.int hi u,.int 1 v] },toks:=tk }:=by
  refine wpAny_pyIter_range (IsRange.new ..) (small_one h1 h2 h3 h4) ?_;have I1:Inv X pins σ H { s with heap:=s.heap.push { cls:=.type "range", data:=.fields #[.int lo t,.int hi u,.int 1 v] },toks:=tk }:=I.kept fun b o e=>Heap.get?_push_of_some _ e
  refine⟨(s.heap.push { cls:=.type "range", data:=.fields #[.int lo t,.int hi u,.int 1 v] }).objs.size,[(s.heap.push { cls:=.type "range", data:=.fields #[.int lo t,.int hi u,.int 1 v] }).objs.size],_,_,H,rfl,
    I1.kept (t':=tk) fun b o e=>Heap.get?_push_of_some _ e,zgv _ lo (hi-lo).toNat,?_,fun b hb => ?_,q⟩
  . have e1:lo+((0:Nat):Int)*1=lo:=by simp
    have e2:(((hi-lo).toNat:Nat):Int)-((0:Nat):Int)=Builtin.Range.rangeSize lo hi 1:=by rw[rangeSize_one];split <;> omega
    show IsRangeIter _ _ (lo+((0:Nat):Int)*1) ((((hi-lo).toNat:Nat):Int)-((0:Nat):Int)) 1
    rw[e1,e2];exact Heap.get?_push_size _ rfl
  . have e:b=(s.heap.push { cls:=.type "range", data:=.fields #[.int lo t,.int hi u,.int 1 v] }).objs.size:=by simpa using hb
    subst e;exact I1.fpOk (Zm _) (I1.hok.fresh (Zm _))
def iRng1(ta:TA):TI:=fun σ H R=>ta σ H fun vs H1=>∃j:Int,vs=[.int j] /\ -(2^62)<=j/\j<2^62/\R (Itr 0 j.toNat) H1
def iRng2(ta:TA):TI:=fun σ H R=>ta σ H fun vs H1=>∃i j:Int,vs=[.int i,.int j]/\(-(2^62)<=i/\i<2^62 /\ -(2^62)<=j/\j<2^62)/\R (Itr i (j-i).toNat) H1
theorem xz {a:Expr} {ta:TA} {p pos:Pos} (hg:Gl X "range") (hm:X.mg "range" = none) (ha:PA X [a] ta) (hs:starEach [a] X.env=[(false,eval a X.env)]:=by rfl):PI X tg (.Call (.Name "range" p) [a] [] pos) (iRng1 ta):=by
  intro pins s σ H R I h;refine Call_ (ou I hg hm boot_range (PyProof.Rows.callWith_type1 (thn (ha pos pins s σ H _ I h) fun us s1 ⟨vs,H1,I1,r1,q1⟩ => ?_) hs rfl));obtain⟨j,e,q1,q2,q⟩:=q1;subst e
  cases r1 with
  | cons r rr =>
    cases rr;obtain⟨t,rfl⟩:=r;exact call_range_1 (zj5 I1 (by omega) (by omega) q1 q2 (by simpa using q))
def tFor(wi:TI)(g:TG)(tb:TS):TS:=fun D σ H=>wi σ H fun J H1=>∃W:Nat->Nat->St->Hp->Prop,(∃m,W 0 m σ H1)/\∀i m σ H,W i m σ H ->
  (J.stop i H/\D.nx σ H)\/(J.go i H/\∃N:St->Hp->Prop,(∀σ' H',N σ' H'->∃m',m'<m/\W (i+1) m' σ' H')/\∀x H',J.yld i H x H'->g x σ H' fun σ2 H2=>tb { D with nx:=N,ct:=N,bk:=D.nx } σ2 H2)
def jg(fp:List Addr)(h:Heap):List (Addr×Obj):=fp.filterMap fun b=>(h.get? b).map fun o=>(b,o)
theorem ul{fp:List Addr}{h:Heap}{b:Addr}{o:Obj}(hb:b∈fp)(e:h.get? b=some o):(b,o)∈jg fp h:=ZU.mpr ⟨b,hb,by rw[e];rfl⟩
theorem zi6{fp:List Addr}{h:Heap}{p:Addr×Obj}(hp:p∈jg fp h):p.1∈fp/\h.get? p.1=some p.2:=by
  obtain⟨b,hb,e⟩:=ZU.mp hp
  cases q:h.get? b with
  | none=>rw[q]at e;cases e
  | some o =>
    rw[q]at e;have e':(b,o)=p:=Option.some.inj e;subst e';exact⟨hb,q⟩
theorem Inv.pinned{pins:List (Addr×Obj)}{σ:St}{H:Hp}{s:Shared}{fp:List Addr}(I:Inv X pins σ H s)(hf:∀b∈fp,FpOk X pins H b)(ho:∀b∈fp,∃o,s.heap.get? b=some o/\∀v,o.data≠.cell v):Inv X (pins++jg fp s.heap) σ H s :=
  I.pins_of fun p hp=>(ZH.mp hp).elim (fun z=>I.pin p (Zu _ z)) fun z=>by
    obtain⟨hb,e⟩:=zi6 z;obtain⟨f0,f1,f2,_⟩:=hf p.1 hb;obtain⟨o,e',d⟩:=ho p.1 hb;rw[e]at e';cases e';exact⟨e,f0,f1,f2,d⟩
theorem Inv.unpinned{pins pl:List (Addr×Obj)}{σ:St}{H:Hp}{s:Shared}(I:Inv X (pins++pl) σ H s):Inv X pins σ H s:=I.pins_of fun p hp=>I.pin p (Zu _ (Yg _ hp))
theorem xp{iter:Expr}{body:List Stmt}{wi:TI}{g:TG}{tb:TS}{pos:Pos}(hp:PassesOwn (model X.prog X.w) X.A X.env X.xe)(hc:X.calm=true)(hi:PI X tg iter wi)(hg:PG X tg g)(hb:PSs X body tb)
    (hs:∀x,foldedSetIterable iter X.env x=pure x:=by intro _;rfl):PS X (.For tg iter body [] pos) (tFor wi g tb):=by
  intro pins s σ H D I h;refine wpAny_For (thn (hi pins s σ H _ I h) fun v s1 h1=>thn h1 fun itv s2 h2 => ?_) hs;obtain⟨it,fp,tn,J,H2,e,I2,T,st2,f2,W,⟨m0,w0⟩,turn⟩:=h2;subst e
  -- what stays true of the iterator's objects through the loop
  have stat:∀{H':Hp},(∀b∈fp,H' b=none)->∀b∈fp,FpOk X pins H' b:=fun hn b hb=>⟨hn b hb,(f2 b hb).2⟩
  refine codeAny_forLoop_any (fun n s'=>∃i σ' H',Inv X pins σ' H' s'/\tn i s'.heap/\(∀b∈fp,H' b=none)/\W i n σ' H') ?_ m0 ⟨0,σ,H2,I2,st2,fun b hb=>(f2 b hb).1,w0⟩
  rintro n s3 ⟨i,σ3,H3,I3,st3,fr3,w3⟩
  rcases turn i n σ3 H3 w3 with ⟨stop,qn⟩ | ⟨go,N,hN,step⟩
  . refine wpAny_passesOwn hp (thn (T.done X rfl rfl rfl hc i pins s3 σ3 H3 X.xe I3 (stat fr3) st3 stop) fun r s4 ⟨hr,I4⟩ => ?_)
    subst hr;exact wpAny_execs_nil ⟨σ3,H3,I4,qn⟩
  . refine wpAny_passesOwn hp (thn (T.item X rfl rfl rfl hc i pins s3 σ3 H3 X.xe I3 (stat fr3) st3 go) fun r s4 ⟨u,hr,h4⟩ => ?_)
    subst hr;refine wpAny_passesOwn hp (thn h4 fun _ s5 ⟨x,H5,I5,r5,y5,st5,fr5⟩ => ?_);have I5':=I5.pinned (stat fr5) (T.obj _ _ st5);refine wpAny_passesOwn hp (thn (hg _ s5 σ3 H5 x u _ I5' r5 (step x H5 y5)) fun _ s6 ⟨σ6,H6,I6,q6⟩ => ?_);refine wpAny_passesOwn hp (thn (hb _ s6 σ6 H6 _ I6 q6) fun f s7 q7 => ?_)
    have again:∀{σ7:St} {H7:Hp},Inv X (pins++jg fp s5.heap) σ7 H7 s7->N σ7 H7->∃m,m<n/\∃i σ' H',Inv X pins σ' H' s7/\tn i s7.heap/\(∀b∈fp,H' b=none)/\W i m σ' H':=fun {σ7 H7} I7 n7=>by
      obtain⟨m',hm,w7⟩:=hN σ7 H7 n7;refine⟨m',hm,i+1,σ7,H7,I7.unpinned,T.keep _ _ _ st5 fun b hb o e=>(I7.pin (b,o) (Zu _ (Zu _ (ul hb e)))).1,fun b hb => ?_,w7⟩;obtain⟨o,e,d⟩:=T.obj _ _ st5 b hb;exact(I7.pin (b,o) (Zu _ (Zu _ (ul hb e)))).2.1
    cases f with
    | next=>obtain⟨σ7,H7,I7,n7⟩:=q7;exact again I7 n7
    | cont=>obtain⟨σ7,H7,I7,n7⟩:=q7;exact again I7 n7
    | brk=>obtain⟨σ7,H7,I7,q7⟩:=q7;exact⟨σ7,H7,I7.unpinned,q7⟩
    | ret v=>obtain⟨x7,σ7,H7,I7,r7,q7⟩:=q7;exact⟨x7,σ7,H7,I7.unpinned,r7,q7⟩
end
theorem wn{K:Fg}{a:Addr}{xs:List V}{g:TG}{tb:TS}{D:Ends}{σ:St}{H:Hp}(Pv:Nat->St->Hp->Prop)(h0:Pv 0 σ H)(hl:∀i σ H,i<=xs.length->Pv i σ H->SqL K H a xs)
    (hs:∀i x σ H,xs[i]? = some x->Pv i σ H->g x σ H fun σ2 H2=>tb { D with nx:=Pv (i+1),ct:=Pv (i+1),bk:=D.nx } σ2 H2) (hd:∀σ H,Pv xs.length σ H->D.nx σ H) :
    ∃W:Nat->Nat->St->Hp->Prop,(∃m,W 0 m σ H)/\∀i m σ H,W i m σ H ->
      ((Itl K a).stop i H/\D.nx σ H)\/((Itl K a).go i H/\∃N:St->Hp->Prop,(∀σ' H',N σ' H'->∃m',m'<m/\W (i+1) m' σ' H')/\∀x H',(Itl K a).yld i H x H'->g x σ H' fun σ2 H2=>tb { D with nx:=N,ct:=N,bk:=D.nx } σ2 H2):=by
  refine⟨fun i m σ H=>m=xs.length-i/\i<=xs.length/\Pv i σ H,⟨xs.length,by simp,ZE _,h0⟩,?_⟩
  rintro i m σ H ⟨rfl,hi,p⟩
  have q:=hl i σ H hi p
  by_cases hlt:i<xs.length
  . refine .inr ⟨⟨xs,xs[i],q,by simp[hlt]⟩,Pv (i+1),fun σ' H' p'=>⟨xs.length-(i+1),by omega,rfl,hlt,p'⟩,fun x H' y => ?_⟩
    obtain⟨e,y⟩:=y;subst e;exact hs i x σ _ (y xs q) p
  . have e:i=xs.length:=by omega
    subst e;exact .inl ⟨⟨xs,q,Zm _⟩,hd σ H p⟩
theorem zlm{K:Fg}{a:Addr}{xs:List V}{g:TG}{tb:TS}{D:Ends}{σ:St}{H:Hp}(Pv:Nat->St->Hp->Prop)(h0:Pv 0 σ H)(hl:∀i σ H,i<=xs.length->Pv i σ H->SqT K H a xs)
    (hs:∀i x σ H,xs[i]? = some x->Pv i σ H->g x σ H fun σ2 H2=>tb { D with nx:=Pv (i+1),ct:=Pv (i+1),bk:=D.nx } σ2 H2) (hd:∀σ H,Pv xs.length σ H->D.nx σ H) :
    ∃W:Nat->Nat->St->Hp->Prop,(∃m,W 0 m σ H)/\∀i m σ H,W i m σ H ->
      ((Itt K a).stop i H/\D.nx σ H)\/((Itt K a).go i H/\∃N:St->Hp->Prop,(∀σ' H',N σ' H'->∃m',m'<m/\W (i+1) m' σ' H')/\∀x H',(Itt K a).yld i H x H'->g x σ H' fun σ2 H2=>tb { D with nx:=N,ct:=N,bk:=D.nx } σ2 H2):=by
  refine⟨fun i m σ H=>m=xs.length-i/\i<=xs.length/\Pv i σ H,⟨xs.length,by simp,ZE _,h0⟩,?_⟩
  rintro i m σ H ⟨rfl,hi,p⟩
  have q:=hl i σ H hi p
  by_cases hlt:i<xs.length
  . refine .inr ⟨⟨xs,xs[i],q,by simp[hlt]⟩,Pv (i+1),fun σ' H' p'=>⟨xs.length-(i+1),by omega,rfl,hlt,p'⟩,fun x H' y => ?_⟩
    obtain⟨e,y⟩:=y;subst e;exact hs i x σ _ (y xs q) p
  . have e:i=xs.length:=by omega
    subst e;exact .inl ⟨⟨xs,q,Zm _⟩,hd σ H p⟩
theorem ue{lo:Int}{n:Nat}{g:TG}{tb:TS}{D:Ends}{σ:St}{H:Hp}(Pv:Nat->St->Hp->Prop)(h0:Pv 0 σ H)
    (hs:∀i σ H,i<n->Pv i σ H->g (.int (lo+i)) σ H fun σ2 H2=>tb { D with nx:=Pv (i+1),ct:=Pv (i+1),bk:=D.nx } σ2 H2) (hd:∀σ H,Pv n σ H->D.nx σ H) :
    ∃W:Nat->Nat->St->Hp->Prop,(∃m,W 0 m σ H)/\∀i m σ H,W i m σ H ->
      ((Itr lo n).stop i H/\D.nx σ H)\/((Itr lo n).go i H/\∃N:St->Hp->Prop,(∀σ' H',N σ' H'->∃m',m'<m/\W (i+1) m' σ' H')/\∀x H',(Itr lo n).yld i H x H'->g x σ H' fun σ2 H2=>tb { D with nx:=N,ct:=N,bk:=D.nx } σ2 H2):=by
  refine⟨fun i m σ H=>m=n-i/\i<=n/\Pv i σ H,⟨n,by simp,ZE _,h0⟩,?_⟩
  rintro i m σ H ⟨rfl,hi,p⟩
  by_cases hlt:i<n
  . refine .inr ⟨hlt,Pv (i+1),fun σ' H' p'=>⟨n-(i+1),by omega,rfl,hlt,p'⟩,fun x H' y => ?_⟩
    obtain⟨e,y⟩:=y;subst e y;exact hs i σ _ hlt p
  . have e:i=n:=by omega
    subst e;exact .inl ⟨Zm _,hd σ H p⟩
end L2
namespace L2
open PySem PySem.Spec PyProof.Rows
abbrev R2:=V->V->Hp->VK->Prop
def OpR(X:Cx)(f:Value->Value->Sem Value)(r:R2):Prop :=
  ∀(pins:List (Addr×Obj)) (s:Shared) (σ:St) (H:Hp) (x y:V) (v u:Value) (Q:VK),Inv X pins σ H s->RelV x v->RelV y u->r x y H Q ->
    wpAny (model X.prog X.w) X.A (f v u) (EP X pins σ Q) X.xe s
def UnR(X:Cx)(f:Value->Sem Value)(r:V->Hp->VK->Prop):Prop :=
  ∀(pins:List (Addr×Obj)) (s:Shared) (σ:St) (H:Hp) (x:V) (v:Value) (Q:VK),Inv X pins σ H s->RelV x v->r x H Q ->
    wpAny (model X.prog X.w) X.A (f v) (EP X pins σ Q) X.xe s
def w9(X:Cx)(f:Value)(r:List V->Hp->VK->Prop):Prop :=
  ∀(pins:List (Addr×Obj)) (s:Shared) (σ:St) (H:Hp) (xs:List V) (us:List Value) (Q:VK),Inv X pins σ H s->Vals xs us->r xs H Q ->
    wpAny (model X.prog X.w) X.A (call f us) (EP X pins σ Q) X.xe s
def tOp(r:R2)(ta tb:TE):TE:=fun σ H Q=>ta σ H fun x H1=>tb σ H1 fun y H2=>r x y H2 Q
def tUn(r:V->Hp->VK->Prop)(ta:TE):TE:=fun σ H Q=>ta σ H fun x H1=>r x H1 Q
def rI(C:Int->Int->Prop)(g:Int->Int->V):R2:=fun x y H Q=>∃i j,x=.int i/\y=.int j/\C i j/\Q (g i j) H
def rI0(g:Int->Int->V):R2:=fun x y H Q=>∃i j,x=.int i/\y=.int j/\Q (g i j) H
def rU(g:Int->V):V->Hp->VK->Prop:=fun x H Q=>∃i,x=.int i/\Q (g i) H
section
variable{X:Cx}{a b c:Expr}{ta tb tc:TE}{pos:Pos}
theorem binT(ha:PE X a ta)(hb:PE X b tb){pins:List (Addr×Obj)}{s:Shared}{σ:St}{H:Hp}{R:V->V->Hp->Prop}(I:Inv X pins σ H s)
    (h:ta σ H fun x H1=>tb σ H1 fun y H2=>R x y H2) {Q:Value->Shared->Prop} {f:Value->Value->Sem Value}
    (hf:∀v u s2 x y H2,Inv X pins σ H2 s2->RelV x v->RelV y u->R x y H2->wpAny (model X.prog X.w) X.A (f v u) Q X.xe s2) :
    wpAny (model X.prog X.w) X.A (eval a X.env) (fun v s₁=>wpAny (model X.prog X.w) X.A (eval b X.env) (fun u s₂=>wpAny (model X.prog X.w) X.A (f v u) Q X.xe s₂) X.xe s₁) X.xe s:=by
  refine thn (ha pins s σ H _ I h) fun v s1 ⟨x,H1,I1,r1,q1⟩ => ?_
  refine thn (hb pins s1 σ H1 _ I1 q1) fun u s2 ⟨y,H2,I2,r2,q2⟩ => ?_
  exact hf v u s2 x y H2 I2 r1 r2 q2
theorem zt{op:Operator}{r:R2}(ho:OpR X (binaryOp op) r)(ha:PE X a ta)(hb:PE X b tb):PE X (.BinOp a op b pos) (tOp r ta tb):=by
  intro pins s σ H Q I h;exact wpAny_BinOp (binT ha hb I h fun v u s2 x y H2 I2 rx ry q=>ho pins s2 σ H2 x y v u Q I2 rx ry q)
theorem cp{op:UnaryOp}{r:V->Hp->VK->Prop}(ho:UnR X (unaryOp op) r)(ha:PE X a ta):PE X (.UnaryOp op a pos) (tUn r ta):=by
  intro pins s σ H Q I h;exact UnaryOp_ (thn (ha pins s σ H _ I h) fun v s1 ⟨x,H1,I1,r1,q1⟩=>ho pins s1 σ H1 x v Q I1 r1 q1)
theorem opI{f:Value->Value->Sem Value}{C:Int->Int->Prop}{g:Int->Int->Int}
    (rule:∀(i j:Int) (t u:Tok) (s:Shared) (Q:Value->Shared->Prop) (E:Value->Shared->Prop),C i j->Q (.int (g i j) s.toks) { s with toks:=s.toks+1 }->wpAny (model X.prog X.w) X.A (f (.int i t) (.int j u)) Q E s) :
    OpR X f (rI C fun i j=>.int (g i j)):=by
  intro pins s σ H x y v u Q I rx ry h;obtain⟨i,j,rfl,rfl,hc,q⟩:=h;obtain⟨t,rfl⟩:=rx;obtain⟨t',rfl⟩:=ry;exact rule i j t t' s _ _ hc ⟨.int (g i j),H,I.tok _,⟨_,rfl⟩,q⟩
theorem opI0{f:Value->Value->Sem Value}{g:Int->Int->Int}
    (rule:∀(i j:Int) (t u:Tok) (s:Shared) (Q:Value->Shared->Prop) (E:Value->Shared->Prop),Q (.int (g i j) s.toks) { s with toks:=s.toks+1 }->wpAny (model X.prog X.w) X.A (f (.int i t) (.int j u)) Q E s) :
    OpR X f (rI0 fun i j=>.int (g i j)):=by
  intro pins s σ H x y v u Q I rx ry h;obtain⟨i,j,rfl,rfl,q⟩:=h;obtain⟨t,rfl⟩:=rx;obtain⟨t',rfl⟩:=ry;exact rule i j t t' s _ _ ⟨.int (g i j),H,I.tok _,⟨_,rfl⟩,q⟩
theorem opB0{f:Value->Value->Sem Value}{g:Int->Int->Bool}
    (rule:∀(i j:Int) (t u:Tok) (s:Shared) (Q:Value->Shared->Prop) (E:Value->Shared->Prop),Q (.bool (g i j)) s->wpAny (model X.prog X.w) X.A (f (.int i t) (.int j u)) Q E s) :
    OpR X f (rI0 fun i j=>.bl (g i j)):=by
  intro pins s σ H x y v u Q I rx ry h;obtain⟨i,j,rfl,rfl,q⟩:=h;obtain⟨t,rfl⟩:=rx;obtain⟨t',rfl⟩:=ry;exact rule i j t t' s _ _ ⟨.bl (g i j),H,I,rfl,q⟩
def CDiv(i j:Int):Prop:=0<j/\j<1073741824
def CPow(i j:Int):Prop:=0<=j/\j<=1000000/\i.natAbs<2^64
def CMul(i j:Int):Prop:=(-(2^64)<i/\i<2^64)\/(-(2^64)<j/\j<2^64)
theorem CMul.ok{i j:Int}(h:CMul i j):IntMulOk i j:=by
  rcases h with ⟨h1,h2⟩ | ⟨h1,h2⟩
  . exact .of_left (intBits_le_64 h1 h2)
  . exact .of_right (intBits_le_64 h1 h2)
theorem wf:OpR X (binaryOp .Add) (rI0 fun i j=>.int (i+j)):=opI0 fun _ _ _ _ _ _ _ q=>add_int q
theorem bj:OpR X (binaryOp .Sub) (rI0 fun i j=>.int (i-j)):=opI0 fun _ _ _ _ _ _ _ q=>sub_int q
theorem iy:OpR X (binaryOp .Mult) (rI CMul fun i j=>.int (i*j)):=opI fun _ _ _ _ _ _ _ hc q=>mul_int q hc.ok
theorem wp:OpR X (binaryOp .FloorDiv) (rI CDiv fun i j=>.int (i/j)):=opI fun i j _ _ _ _ _ hc q=>by
  have h1:(0:Int)<j:=hc.1;have h2:j<1073741824:=hc.2;exact floordiv_int (by omega) (by rw[Int.fdiv_eq_ediv_of_nonneg i (by omega)];exact q) (.inl (PyProof.noPylong_small (by omega)))
theorem xt:OpR X (binaryOp .Mod) (rI (fun _ j=>0<j) fun i j=>.int (i % j)):=opI fun i j _ _ _ _ _ hc q=>by
  have h1:(0:Int)<j:=hc;exact mod_int' (by omega) (by rw[Int.fmod_eq_emod_of_nonneg i (by omega)];exact q)
theorem jc:OpR X (binaryOp .Pow) (rI CPow fun i j=>.int (i^j.toNat)):=opI fun _ _ _ _ _ _ _ hc q=>pow_int_small hc.1 hc.2.1 hc.2.2 q
theorem unI{f:Value->Sem Value}{g:Int->Int}
    (rule:∀(i:Int) (t:Tok) (s:Shared) (Q:Value->Shared->Prop) (E:Value->Shared->Prop),Q (.int (g i) s.toks) { s with toks:=s.toks+1 }->wpAny (model X.prog X.w) X.A (f (.int i t)) Q E s) :
    UnR X f (rU fun i=>.int (g i)):=by
  intro pins s σ H x v Q I rx h;obtain⟨i,rfl,q⟩:=h;obtain⟨t,rfl⟩:=rx;exact rule i t s _ _ ⟨.int (g i),H,I.tok _,⟨_,rfl⟩,q⟩
theorem gk:UnR X (unaryOp .USub) (rU fun i=>.int (-i)):=unI fun _ _ _ _ _ q=>neg_int q
end
def scal:V->V->Bool
  | .non,.non=>true | .non,.int _=>true | .int _,.non=>true | .non,.bl _=>true | .bl _,.non=>true | .non,.str _=>true | .str _,.non=>true
  | .int _,.int _=>true | .bl _,.bl _=>true | .str _,.str _=>true | .byt _,.byt _=>true
  | .int _,.str _=>true | .str _,.int _=>true | .bl _,.str _=>true | .str _,.bl _=>true
  | _,_=>false
def rEq:R2:=fun x y H Q=>scal x y=true/\Q (.bl (decide (x=y))) H
def rNe:R2:=fun x y H Q=>scal x y=true/\Q (.bl (!decide (x=y))) H
theorem zeo{i j:Int}:decide (V.int i=V.int j)=(i==j):=by
  rw[Bool.eq_iff_iff];simp
theorem zhh{i j:Bool}:decide (V.bl i=V.bl j)=(i==j):=by
  rw[Bool.eq_iff_iff];simp
theorem zep{i j:Str}:decide (V.str i=V.str j)=(i==j):=by
  rw[Bool.eq_iff_iff];simp
theorem zek{i j:Array UInt8}:decide (V.byt i=V.byt j)=(i.toList==j.toList):=by
  rw[Bool.eq_iff_iff];cases i;cases j;simp
section
variable{X:Cx}{a b c:Expr}{ta tb tc:TE}{pos:Pos}
theorem yo{pins:List (Addr×Obj)}{σ:St}{H:Hp}{s:Shared}{Q:VK}{k k':Bool}(I:Inv X pins σ H s)(q:Q (.bl k) H)(e:k=k'):EP X pins σ Q (.bool k') s:=by
  subst e;exact⟨.bl k,H,I,rfl,q⟩
theorem ua:OpR X (compareOp .Eq) rEq:=by
  intro pins s σ H x y v u Q I rx ry h;obtain⟨hs,q⟩:=h
  cases x with
  | non =>
    cases rx
    cases y with
    | non=>cases ry;exact PySem.EqNone.eq_none_none (yo I q (by simp))
    | bl j=>cases ry;exact PySem.EqNone.eq_none_bool (yo I q (by simp))
    | int j=>obtain⟨t',rfl⟩:=ry;exact PySem.EqNone.eq_none_int (yo I q (by simp))
    | str j=>obtain⟨t',rfl⟩:=ry;exact PySem.EqNone.eq_none_str (yo I q (by simp))
    | _=>exact absurd (show false=true from hs) Bool.false_ne_true
  | bl i =>
    cases rx
    cases y with
    | non=>cases ry;exact PySem.EqNone.eq_bool_none (yo I q (by simp))
    | bl j=>cases ry;exact eq_bool (yo I q zhh)
    | str j=>obtain⟨t',rfl⟩:=ry;exact PySem.EqMixed.eq_bool_str (yo I q (by simp))
    | _=>exact absurd (show false=true from hs) Bool.false_ne_true
  | int i =>
    obtain⟨t,rfl⟩:=rx
    cases y with
    | non=>cases ry;exact PySem.EqNone.eq_int_none (yo I q (by simp))
    | int j=>obtain⟨t',rfl⟩:=ry;exact eq_int (yo I q zeo)
    | str j=>obtain⟨t',rfl⟩:=ry;exact PySem.EqMixed.eq_int_str (yo I q (by simp))
    | _=>exact absurd (show false=true from hs) Bool.false_ne_true
  | str i =>
    obtain⟨t,rfl⟩:=rx
    cases y with
    | non=>cases ry;exact PySem.EqNone.eq_str_none (yo I q (by simp))
    | bl j=>cases ry;exact PySem.EqMixed.eq_str_bool (yo I q (by simp))
    | int j=>obtain⟨t',rfl⟩:=ry;exact PySem.EqMixed.eq_str_int (yo I q (by simp))
    | str j=>obtain⟨t',rfl⟩:=ry;exact eq_str (yo I q zep)
    | _=>exact absurd (show false=true from hs) Bool.false_ne_true
  | byt i =>
    obtain⟨t,rfl⟩:=rx
    cases y with
    | byt j=>obtain⟨t',rfl⟩:=ry;exact PySem.W.eq_bytes (yo I q zek)
    | _=>exact absurd (show false=true from hs) Bool.false_ne_true
  | _=>cases y <;> exact absurd (show false=true from hs) Bool.false_ne_true
theorem ve:OpR X (compareOp .NotEq) rNe:=by
  intro pins s σ H x y v u Q I rx ry h;obtain⟨hs,q⟩:=h
  cases x with
  | non =>
    cases rx
    cases y with
    | non=>cases ry;exact PySem.EqNone.ne_none_none (yo I q (by simp))
    | bl j=>cases ry;exact PySem.EqNone.ne_none_bool (yo I q (by simp))
    | int j=>obtain⟨t',rfl⟩:=ry;exact PySem.EqNone.ne_none_int (yo I q (by simp))
    | str j=>obtain⟨t',rfl⟩:=ry;exact PySem.EqNone.ne_none_str (yo I q (by simp))
    | _=>exact absurd (show false=true from hs) Bool.false_ne_true
  | bl i =>
    cases rx
    cases y with
    | non=>cases ry;exact PySem.EqNone.ne_bool_none (yo I q (by simp))
    | bl j=>cases ry;exact ne_bool (yo I q (congrArg not zhh))
    | str j=>obtain⟨t',rfl⟩:=ry;exact PySem.EqMixed.ne_bool_str (yo I q (by simp))
    | _=>exact absurd (show false=true from hs) Bool.false_ne_true
  | int i =>
    obtain⟨t,rfl⟩:=rx
    cases y with
    | non=>cases ry;exact PySem.EqNone.ne_int_none (yo I q (by simp))
    | int j=>obtain⟨t',rfl⟩:=ry;exact ne_int (yo I q (congrArg not zeo))
    | str j=>obtain⟨t',rfl⟩:=ry;exact PySem.EqMixed.ne_int_str (yo I q (by simp))
    | _=>exact absurd (show false=true from hs) Bool.false_ne_true
  | str i =>
    obtain⟨t,rfl⟩:=rx
    cases y with
    | non=>cases ry;exact PySem.EqNone.ne_str_none (yo I q (by simp))
    | bl j=>cases ry;exact PySem.EqMixed.ne_str_bool (yo I q (by simp))
    | int j=>obtain⟨t',rfl⟩:=ry;exact PySem.EqMixed.ne_str_int (yo I q (by simp))
    | str j=>obtain⟨t',rfl⟩:=ry;exact ne_str (yo I q (congrArg not zep))
    | _=>exact absurd (show false=true from hs) Bool.false_ne_true
  | byt i =>
    obtain⟨t,rfl⟩:=rx
    cases y with
    | byt j=>obtain⟨t',rfl⟩:=ry;exact PySem.W.ne_bytes (yo I q (congrArg not zek))
    | _=>exact absurd (show false=true from hs) Bool.false_ne_true
  | _=>cases y <;> exact absurd (show false=true from hs) Bool.false_ne_true
theorem op_lt:OpR X (compareOp .Lt) (rI0 fun i j=>.bl (decide (i<j))):=opB0 fun _ _ _ _ _ _ _ q=>lt_int q
theorem j8:OpR X (compareOp .LtE) (rI0 fun i j=>.bl (decide (i<=j))):=opB0 fun _ _ _ _ _ _ _ q=>le_int q
theorem zf9:OpR X (compareOp .Gt) (rI0 fun i j=>.bl (decide (j<i))):=opB0 fun _ _ _ _ _ _ _ q=>gt_int q
theorem op_ge:OpR X (compareOp .GtE) (rI0 fun i j=>.bl (decide (j<=i))):=opB0 fun _ _ _ _ _ _ _ q=>ge_int q
theorem zcv:OpR X (compareOp .Is) (fun x y H Q=>y=.non/\Q (.bl (decide (x=.non))) H):=by
  intro pins s σ H x y v u Q I rx ry h;obtain⟨rfl,q⟩:=h;cases ry;refine is_none_gen (yo I q ?_)
  cases x <;> first
    | (cases rx;rfl)
    | (obtain⟨t,rfl⟩:=rx;rfl)
theorem yd(b:Expr){op:CmpOp}(h:op≠.In:=by decide)(h2:op≠.NotIn:=by decide):behindInMarks op b=false:=by
  have e1:(op==CmpOp.In)=false:=by cases op <;> first | rfl | exact absurd rfl h
  have e2:(op==CmpOp.NotIn)=false:=by cases op <;> first | rfl | exact absurd rfl h2
  cases b <;> simp[behindInMarks,e1,e2]
theorem um{op:CmpOp}{r:R2}(ho:OpR X (compareOp op) r)(ha:PE X a ta)(hb:PE X b tb)(hm:behindInMarks op b=false):PE X (.Compare a [op] [b] pos) (tOp r ta tb):=by
  intro pins s σ H Q I h;exact wpAny_Compare1 (binT ha hb I h fun v u s2 x y H2 I2 rx ry q=>ho pins s2 σ H2 x y v u Q I2 rx ry q) hm
def zf5(t:TE):TT:=fun σ H Q=>t σ H fun x H'=>∃k,x=.bl k/\Q k H'
theorem yb{op:CmpOp}{r:R2}(ho:OpR X (compareOp op) r)(ha:PE X a ta)(hb:PE X b tb)(hm:behindInMarks op b=false):PT X (.Compare a [op] [b] pos) (zf5 (tOp r ta tb)):=by
  intro pins s σ H Q I h
  refine wpAny_isTrue_Compare1 (thn (ha pins s σ H _ I h) fun v s1 ⟨x,H1,I1,r1,q1⟩=>thn (hb pins s1 σ H1 _ I1 q1) fun u s2 ⟨y,H2,I2,r2,q2⟩ =>
    thn (ho pins s2 σ H2 x y v u _ I2 r1 r2 q2) fun c s3 ⟨z,H3,I3,r3,k,e,q3⟩ => ?_) hm
  subst e;cases r3;exact wpAny_truthy_bool ⟨H3,I3,q3⟩
def zb9(r r':R2)(ta tb tc:TE):TE:=fun σ H Q=>ta σ H fun x H1=>tb σ H1 fun y H2=>r x y H2 fun z H3=>∃k,z=.bl k /\
  (if k=true then tc σ H3 fun w' H4=>r' y w' H4 Q else Q (.bl false) H3)
theorem d9{op op':CmpOp}{r r':R2}(ho:OpR X (compareOp op) r)(ho':OpR X (compareOp op') r')(ha:PE X a ta)(hb:PE X b tb)(hc:PE X c tc)
    (hm:lastMarks [op,op'] [b,c]=false:=by with_unfolding_all rfl):PE X (.Compare a [op,op'] [b,c] pos) (zb9 r r' ta tb tc):=by
  intro pins s σ H Q I h
  refine Compare_chain (thn (ha pins s σ H _ I h) fun v s1 ⟨x,H1,I1,r1,q1⟩=>chain_link (thn (hb pins s1 σ H1 _ I1 q1) fun u s2 ⟨y,H2,I2,r2,q2⟩ =>
    thn (ho pins s2 σ H2 x y v u _ I2 r1 r2 q2) fun d s3 ⟨z,H3,I3,r3,k,e,q3⟩ => ?_)) hm
  subst e;cases r3;refine wpAny_truthy_bool ?_
  cases k with
  | false=>exact ite_ff ⟨.bl false,H3,I3,rfl,q3⟩
  | true=>exact ite_tt (chain_last (thn (hc pins s3 σ H3 _ I3 q3) fun w' s4 ⟨z',H4,I4,r4,q4⟩=>ho' pins s4 σ H4 y z' u w' Q I4 r2 r4 q4))
theorem zc1{op op':CmpOp}{r r':R2}(ho:OpR X (compareOp op) r)(ho':OpR X (compareOp op') r')(ha:PE X a ta)(hb:PE X b tb)(hc:PE X c tc)
    (hm:lastMarks [op,op'] [b,c]=false:=by with_unfolding_all rfl):PT X (.Compare a [op,op'] [b,c] pos) (zf5 (zb9 r r' ta tb tc)):=by
  intro pins s σ H Q I h
  refine isTrue_chain (thn (ha pins s σ H _ I h) fun v s1 ⟨x,H1,I1,r1,q1⟩=>test_link (thn (hb pins s1 σ H1 _ I1 q1) fun u s2 ⟨y,H2,I2,r2,q2⟩ =>
    thn (ho pins s2 σ H2 x y v u _ I2 r1 r2 q2) fun d s3 ⟨z,H3,I3,r3,k,e,q3⟩ => ?_)) hm
  subst e;cases r3;refine wpAny_truthy_bool ?_
  cases k with
  | false =>
    obtain⟨k',e',q'⟩:=q3;cases e';exact ite_ff ⟨H3,I3,q'⟩
  | true =>
    refine ite_tt (test_last (thn (hc pins s3 σ H3 _ I3 q3) fun w' s4 ⟨z',H4,I4,r4,q4⟩=>thn (ho' pins s4 σ H4 y z' u w' _ I4 r2 r4 q4) fun d' s5 ⟨z2,H5,I5,r5,k2,e2,q5⟩ => ?_));subst e2;cases r5;exact wpAny_truthy_bool ⟨H5,I5,q5⟩
theorem mm:(sizeLine:Nat)<2^63:=by rw[sizeLine_eq];decide
theorem xf:OpR X (binaryOp .Add) (fun x y H Q=>∃i j,x=.str i/\y=.str j/\i.length+j.length<=sizeLine/\Q (.str (i++j)) H):=by
  intro pins s σ H x y v u Q I rx ry h;obtain⟨i,j,rfl,rfl,hz,q⟩:=h;obtain⟨t,rfl⟩:=rx;obtain⟨t',rfl⟩:=ry;exact add_str (fun t' tk=>⟨.str (i++j),H,I.tok _,⟨_,rfl⟩,q⟩) hz
theorem qt{x:V}{us:List Value}(r:Vals [x] us):∃u,us=[u]/\RelV x u:=by
  cases r with
  | cons r1 r2=>cases r2;exact⟨_,rfl,r1⟩
theorem zdd:w9 X (.builtin "abs") (fun xs H Q=>∃i,xs=[.int i]/\Q (.int (if i<0 then -i else i)) H):=by
  intro pins s σ H xs us Q I r h;obtain⟨i,rfl,q⟩:=h;obtain⟨u,rfl,t,rfl⟩:=qt r;exact call_abs_int fun u tk=>⟨.int (if i<0 then -i else i),H,I.tok _,⟨_,rfl⟩,q⟩
end
end L2
namespace L2
open PySem PySem.Spec PyProof.Rows
structure ObjM(h:Heap)(x dx C:Addr)(mA:Str->Option Value):Prop where
  obj:h.get? x=some (PySem.W.instObj C dx)
  ns:h.Ns1 dx mA
  ne:dx≠x
theorem zhn{h:Heap}{dx:Addr}{mA:Str->Option Value}(n:h.Ns1 dx mA):∃od,h.get? dx=some od/\∀name,PySem.W.lookIn name od=some (mA name):=by
  obtain⟨o,es,ep,ho,hd,hk,_,hm⟩:=n;refine⟨o,ho,fun name => ?_⟩;have e:=hm name;unfold nsFind findBy at e;rw[<-Array.find?_toList]at e;unfold PySem.W.lookIn;rw[hd];dsimp only
  split
  . rename_i y q
    rw[q]at e;exact congrArg some e
  . rename_i q
    rw[q]at e
    have a:es.toList.any (·.refKey)=false:=by
      rw[List.any_eq_false];intro y hy;obtain⟨z,t,hkey⟩:=hk y (Array.mem_toList_iff.mp hy);simp[DictEntry.refKey,hkey]
    have a':¬es.toList.any (·.refKey)=true:=by rw[a];exact Bool.false_ne_true
    rw[if_neg a'];exact congrArg some e
theorem ObjM.look{h:Heap}{x dx C:Addr}{mA:Str->Option Value}(I:ObjM h x dx C mA):∃od,PySem.W.InstAt h x (PySem.W.instObj C dx) C (some od)/\∀name,PySem.W.lookIn name od=some (mA name) :=
  let ⟨od,ho,hl⟩:=zhn I.ns
  ⟨od,⟨I.obj,rfl,rfl,ho⟩,hl⟩
section
variable{prog:Program}{w:World}{A:Around}{E:Value->Shared->Prop}{s:Shared}{K:Fg}{x dx C f:Addr}{mA:Str->Option Value}{name:Str}{v:Value}
theorem zk9{expr:Bool}{Q:Value->Shared->Prop}(X:K.In s.heap)(I:ObjM s.heap x dx C mA)(hg:PySem.W.plainGet K C name=true)(hh:PySem.W.hasDictIn K C=true)
    (ha:PySem.W.findIn K (.ref C) name=some none) (hv:mA name=some v) (hv':PySem.W.handedIn v=true) (h:Q v { s with toks:=s.toks+1 }) :
    wpAny (model prog w) A (getAttr (.ref x) name expr) Q E s:=by
  obtain⟨od,J,hl⟩:=I.look;exact PySem.W.get_value X J (PySem.W.plainGet_of hg).1 (PySem.W.findObj_own hh ha rfl (by rw[hl,hv])) hv' h
theorem zje{pl:Sem Bool}{Q:Value×List Value->Shared->Prop}(X:K.In s.heap)(I:ObjM s.heap x dx C mA)(hg:PySem.W.plainGet K C name=true)
    (hf:PySem.W.findIn K (.ref C) name=some (some (.ref f))) (ht:PySem.W.isFn K (.ref f)=true) (hv:mA name=none) (h:Q (.ref f,[.ref x]) s) :
    wpAny (model prog w) A (getMethod (.ref x) name pl) Q E s:=by
  obtain⟨od,J,hl⟩:=I.look;exact PySem.W.method_fn X J (PySem.W.plainGet_of hg).1 (PySem.W.plainGet_of hg).2 hf (beq_iff_eq.mp ht) (by show(PySem.W.lookIn name od).map (·.isSome)=some false;rw[hl,hv];rfl) h
theorem zlz{ns:List Str}{Q:Unit->Shared->Prop}(X:K.In s.heap)(I:ObjM s.heap x dx C mA)
    (hs:PySem.W.findIn K (.ref C) "__setattr__" = some (some (.builtin "object.__setattr__"))) (hp:PySem.W.plainOver K C=true) (ht:PySem.W.takerIn K C name=some none) (hh:PySem.W.hasDictIn K C=true)
    (hw:PySem.Within mA ns) (hsz:ns.length<=sizeLine)
    (h:∀h',ObjM h' x dx C (fun y=>if y=name then some v else mA y)->Heap.SameBut dx s.heap h'->Q () { s with heap:=h',toks:=s.toks+2 }) :
    wpAny (model prog w) A (setAttr (.ref x) name v) Q E s:=by
  obtain⟨od,J,hl⟩:=I.look;refine PySem.W.set_plain X J hs (PySem.W.osa_open (s:={ s with toks:=s.toks+1 }) (r:=none) X J hp ht fun b => ?_);obtain⟨cd,hc,hd'⟩:=PySem.W.any_some hh;have hx:s.heap.get? x=some ⟨.ref C,some dx,.plain,#[]⟩:=I.obj;refine wpAny_bind (wpAny_pure (wpAny_bind (wpAny_bind (wpAny_loadPart hx (wpAny_bind (PySem.W.Looks.here (s:={ s with toks:=s.toks+1 }) (PySem.W.looks_clsIn X hc) ?_))))));rw[hd'];refine wpAny_pure (a:=some dx) (wpAny_bind (wpAny_pure (wpAny_bind ?_)));refine wpAny_nsSet1 (s:={ s with toks:=s.toks+1 }) I.ns fun h' hn2 hs2 => ?_
  obtain⟨oD,esD,epD,hoD,hdD,hcD⟩:=hn2.count (PySem.Within.cons name v hw);refine wpAny_bind (wpAny_lookBehind hoD (by rw[hdD];exact pastItsLine_dict (Zd hcD (by rw[ZL];omega))) ?_);exact wpAny_pure (h _ ⟨(hs2.2 _ (Ne.symm I.ne)).trans I.obj,hn2,I.ne⟩ hs2)
theorem zjq{R:Result->Shared->Prop}{vs:List Value}{kw:List (Str×Value)}(X:K.In s.heap)(hm:PySem.W.makesIn K C=true)
    (hi:PySem.W.findIn K (.ref C) "__init__" = some (some (.ref f))) (hf:PySem.W.typeIn K (.ref f)=some (.type "function"))
    (h:codeAny (model prog w) (A.under (.builtin "type.__call__" ⟨.ref C::vs,kw⟩)) (.call (.ref f) ⟨.ref (s.heap.objs.size+1)::vs,kw⟩) (PySem.W.InitBack (s.heap.objs.size+1) R)
      { s with heap:=(s.heap.push PySem.W.emptyDict).push (PySem.W.instObj C s.heap.objs.size) }) :
    codeAny (model prog w) A (.call (.ref C) ⟨vs,kw⟩) R s:=by
  obtain⟨hh,g,d,t,os⟩:=s;exact PySem.W.make_core (PySem.W.makes_of X hm) (PySem.W.looks_findIn X hi) (fun self=>PySem.W.bind_fn X self hf) (.inl rfl) h
end
def putF(f:Str)(v:V):List (Str×V)->List (Str×V)
  | []=>[(f,v)]
  | (g,x)::r=>if g=f then(g,v)::r else(g,x)::putF f v r
theorem e7(f g:Str)(v:V):∀fs:List (Str×V),(putF f v fs).lookup g=if g=f then some v else fs.lookup g
  | []=>by
    show List.lookup g [(f,v)]=_
    by_cases h:g=f
    . have hb:(g==f)=true:=beq_iff_eq.mpr h
      simp only[List.lookup,hb,if_pos h]
    . have hb:(g==f)=false:=beq_eq_false_iff_ne.mpr h
      simp only[List.lookup,hb,if_neg h]
  | (k,x)::r=>by
    have ih:=e7 f g v r;rw[show putF f v ((k,x)::r)=(if k=f then(k,v)::r else(k,x)::putF f v r) from rfl]
    by_cases hk:k=f
    . rw[if_pos hk]
      by_cases h:g=k
      . have hb:(g==k)=true:=beq_iff_eq.mpr h
        simp only[List.lookup,hb,if_pos (h.trans hk)]
      . have hb:(g==k)=false:=beq_eq_false_iff_ne.mpr h
        simp only[List.lookup,hb,if_neg (fun e:g=f=>h (e.trans hk.symm))]
    . rw[if_neg hk]
      by_cases h:g=k
      . have hb:(g==k)=true:=beq_iff_eq.mpr h
        simp only[List.lookup,hb,if_neg (fun e:g=f=>hk (h.symm.trans e))]
      . have hb:(g==k)=false:=beq_eq_false_iff_ne.mpr h
        simp only[List.lookup,hb];exact ih
theorem i6(f:Str)(v:V):∀fs:List (Str×V),f∈(putF f v fs).map (·.1)/\∀g,g∈fs.map (·.1)->g∈(putF f v fs).map (·.1)
  | []=>⟨by simp[putF],fun g h=>by simp at h⟩
  | (k,x)::r=>by
    obtain⟨i1,i2⟩:=i6 f v r;rw[show putF f v ((k,x)::r)=(if k=f then(k,v)::r else(k,x)::putF f v r) from rfl]
    by_cases hk:k=f
    . rw[if_pos hk]
      subst hk;exact⟨by simp,fun g h=>by simpa using h⟩
    . rw[if_neg hk]
      refine⟨?_,fun g h => ?_⟩
      . rw[ZM]
        exact Zv _ i1
      . rw[ZM]at h ⊢
        rcases ZK.mp h with e | e
        . exact ZK.mpr (.inl e)
        . exact Zv _ (i2 g e)
theorem fz(f:Str)(v:V):∀fs:List (Str×V),(putF f v fs).length<=fs.length+1
  | []=>by simp[putF]
  | (k,x)::r=>by
    have ih:=fz f v r;rw[show putF f v ((k,x)::r)=(if k=f then(k,v)::r else(k,x)::putF f v r) from rfl]
    by_cases hk:k=f
    . rw[if_pos hk,ZL,ZL];omega
    . rw[if_neg hk,ZL,ZL];omega
theorem RelO.some_of{v:V}{o:Option Value}(r:RelO (some v) o):∃u,o=some u/\RelV v u:=by
  cases o with
  | none=>exact(show False from r).elim
  | some u=>exact⟨u,rfl,r⟩
theorem RelO.none_of{o:Option Value}(r:RelO none o):o=none:=by
  cases o with
  | none=>rfl
  | some u=>exact(show False from r).elim
theorem zhx{v:V}{u:Value}(r:RelV v u):PySem.W.handedIn u=true:=by
  cases v with
  | non=>cases (show u=Value.none from r);rfl
  | bl b=>cases (show u=Value.bool b from r);rfl
  | int i=>obtain⟨t,e⟩:=(show ∃t,u=Value.int i t from r);cases e;rfl
  | str x=>obtain⟨t,e⟩:=(show ∃t,u=Value.str x t from r);cases e;rfl
  | byt b=>obtain⟨t,e⟩:=(show ∃t,u=Value.bytes b t from r);cases e;rfl
  | flt b=>obtain⟨t,e⟩:=(show ∃t,u=Value.float b t from r);cases e;rfl
  | ref a=>cases (show u=Value.ref a from r);rfl
  | ty n=>cases (show u=Value.type n from r);rfl
section
variable{P:Program}{w:World}{H H':Hp}{h h':Heap}{a C dx:Addr}{fs fs':List (Str×V)}
theorem gy(hok:HOk P w H h)(e:H a=some (.ins C dx fs)):∃mA,ObjM h a dx C mA/\(∀f,RelO (fs.lookup f) (mA f))/\PySem.Within mA (fs.map (·.1))/\fs.length<=1000/\H dx=some (.own a):=by
  obtain⟨d,z,ne,ob,mA,n,r,q⟩:=(show ObjOk P w H h a (.ins C dx fs) from hok a _ e);exact⟨mA,⟨ob,n,ne⟩,r,q,z,d⟩
end
structure Cls(K:Fg)(C:Addr):Prop where
  pg:PySem.W.plainGet K C Str.empty=true
  hd:PySem.W.hasDictIn K C=true
  po:PySem.W.plainOver K C=true
  sa:PySem.W.findIn K (.ref C) "__setattr__" = some (some (.builtin "object.__setattr__"))
theorem Cls.get{K:Fg}{C:Addr}(c:Cls K C)(f:Str):PySem.W.plainGet K C f=true:=c.pg
def NoAttr(K:Fg)(C:Addr)(f:Str):Prop:=PySem.W.findIn K (.ref C) f=some none
theorem NoAttr.taker{K:Fg}{C:Addr}{f:Str}(n:NoAttr K C f):PySem.W.takerIn K C f=some none:=by
  unfold PySem.W.takerIn;rw[show PySem.W.findIn K (.ref C) f=some none from n];rfl
structure Meth(K:Fg)(C:Addr)(m:Str)(f:Addr):Prop where
  at_:PySem.W.findIn K (.ref C) m=some (some (.ref f))
  fn:PySem.W.isFn K (.ref f)=true
  kp:PySem.W.keepIn K (.ref f)=true
section
variable{X:Cx}{pins:List (Addr×Obj)}{σ:St}{H:Hp}{s:Shared}{a C dx:Addr}{fs:List (Str×V)}{f:Str}{v:V}{A:Around}{E:Value->Shared->Prop}
theorem zgo{b:Bool}{Q:Value->Shared->Prop}(I:Inv X pins σ H s)(e:H a=some (.ins C dx fs))(c:Cls X.K C)(n:NoAttr X.K C f)(l:fs.lookup f=some v)
    (h:∀u s',Inv X pins σ H s'->RelV v u->Q u s'):wpAny (model X.prog X.w) A (getAttr (.ref a) f b) Q E s:=by
  obtain⟨mA,O,r,_,_,_⟩:=gy I.hok e;obtain⟨u,hu,ru⟩:=RelO.some_of (v:=v) (o:=mA f) (by rw[<-l];exact r f);exact zk9 I.kIn O (c.get f) c.hd n hu (zhx ru) (h u _ (I.tok _) ru)
theorem cz{m:Str}{g:Addr}{pl:Sem Bool}{Q:Value×List Value->Shared->Prop}(I:Inv X pins σ H s)(e:H a=some (.ins C dx fs))(c:Cls X.K C)(k:Meth X.K C m g)(l:fs.lookup m=none)
    (h:Q (.ref g,[.ref a]) s):wpAny (model X.prog X.w) A (getMethod (.ref a) m pl) Q E s:=by
  obtain⟨mA,O,r,_,_,_⟩:=gy I.hok e;have hn:mA m=none:=RelO.none_of (by rw[<-l];exact r m);exact zje I.kIn O (c.get m) k.at_ k.fn hn h
theorem zgh{y:V}{u:Value}{Q:Unit->Shared->Prop}(I:Inv X pins σ H s)(e:H a=some (.ins C dx fs))(c:Cls X.K C)(n:NoAttr X.K C f)(hl:fs.length<1000)(ry:RelV y u)
    (h:∀s',Inv X pins σ (upd H a (.ins C dx (putF f y fs))) s'->Q () s'):wpAny (model X.prog X.w) A (setAttr (.ref a) f u) Q E s:=by
  obtain⟨mA,O,r,wi,_,ho⟩:=gy I.hok e;have hz:(fs.map (·.1)).length<=sizeLine:=by rw[Za,sizeLine_eq];omega
  refine zlz I.kIn O c.sa c.po n.taker c.hd wi hz fun h' O' sb=>h _ ?_
  have hd:∃o,h'.get? dx=some o:=let ⟨o,_,_,e',_⟩:=O'.ns;⟨o,e'⟩;refine I.write (x:=a) (e:=dx) (by rw[e];exact True.intro) (.inr ho) (fun b q hb z=>(sb.2 b hb).trans z) hd ?_;refine⟨by rw[z8 O.ne];exact ho,?_,O.ne,O'.obj,_,O'.ns,fun g => ?_,fun g hg => ?_⟩
  . have:=fz f y fs;omega
  . show RelO ((putF f y fs).lookup g) (if g=f then some u else mA g)
    rw[e7]
    by_cases q:g=f
    . rw[if_pos q,if_pos q];exact ry
    . rw[if_neg q,if_neg q];exact r g
  . by_cases q:g=f
    . rw[q];exact(i6 f y fs).1
    . refine(i6 f y fs).2 g (wi g fun z=>hg ?_)
      show(if g=f then some u else mA g)=none
      rw[if_neg q];exact z
theorem Inv.made(I:Inv X pins σ H s):Inv X pins σ (upd (upd H s.heap.objs.size (.own (s.heap.objs.size+1))) (s.heap.objs.size+1) (.ins C s.heap.objs.size []))
    { s with heap:=(s.heap.push PySem.W.emptyDict).push (PySem.W.instObj C s.heap.objs.size) }:=by
  have e1:(s.heap.push PySem.W.emptyDict).get? s.heap.objs.size=some PySem.W.emptyDict:=Heap.get?_push_size s.heap rfl
  have e2:((s.heap.push PySem.W.emptyDict).push (PySem.W.instObj C s.heap.objs.size)).get? (s.heap.objs.size+1)=some (PySem.W.instObj C s.heap.objs.size):=by
    have:=Heap.get?_push_size (s.heap.push PySem.W.emptyDict) (o:=PySem.W.instObj C s.heap.objs.size) rfl
    rwa [Heap.size_push]at this
  have e3:(s.heap.push PySem.W.emptyDict).Ns s.heap.objs.size (fun _=>none):=⟨PySem.W.emptyDict,#[],_,e1,rfl,(fun e he=>absurd he (by simp)),fun _=>rfl⟩;have I1:=I.laid (a:=s.heap.objs.size) (o:=.own (s.heap.objs.size+1)) (h':=s.heap.push PySem.W.emptyDict) (t':=s.toks) (fun b u q=>Heap.get?_push_of_some _ q) (Zm _) ⟨_,e1⟩;refine I1.laid (a:=s.heap.objs.size+1) (o:=.ins C s.heap.objs.size []) (t':=s.toks) (fun b u q=>Heap.get?_push_of_some _ q) (YY (Heap.size_push _ _)) ?_;have ne:s.heap.objs.size≠s.heap.objs.size+1:=Zs (Yr _);refine⟨by rw[z8 ne,zn],ZE _,ne,e2,fun _=>none,(Heap.Ns1.of_empty e3).at fun o q=>Heap.get?_push_of_some _ q,fun _=>True.intro,fun y hy=>absurd rfl hy⟩
theorem zl3{prog:Program}{w:World}{env:Env}{e:Expr}{f:Str}{pos:Pos}{s:Shared}{Q:Value->Shared->Prop}(hb:attributeBase e f env (eval e env)=eval e env)
    (h:wpAny (model prog w) A (eval e env) (fun o s₁=>wpAny (model prog w) A (getAttr o f true) Q E s₁) E s):wpAny (model prog w) A (eval (.Attribute e f pos) env) Q E s :=
  Attribute_any_ h (by rw[arm_eval_Attribute,hb])
end
def tFld(K:Fg)(ta:TE)(f:Str):TE:=fun σ H Q=>ta σ H fun x H1=>∃a C dx fs v,x=.ref a/\H1 a=some (.ins C dx fs)/\Cls K C/\NoAttr K C f/\fs.lookup f=some v/\Q v H1
def sFld(K:Fg)(ta tv:TE)(f:Str):TS:=fun D σ H=>tv σ H fun y H1=>ta σ H1 fun x H2=>∃a C dx fs,x=.ref a/\H2 a=some (.ins C dx fs)/\Cls K C/\NoAttr K C f/\fs.length<1000 /\
  D.nx σ (upd H2 a (.ins C dx (putF f y fs)))
section
variable{X:Cx}{o e value:Expr}{f:Str}{pos pos' tpos:Pos}{ta tv:TE}
theorem gr(he:PE X e ta)(hb:attributeBase e f X.env (eval e X.env)=eval e X.env):PE X (.Attribute e f pos) (tFld X.K ta f):=by
  intro pins s σ H Q I h;refine zl3 hb (thn (he pins s σ H _ I h) fun u s1 ⟨x,H1,I1,rx,a,C,dx,fs,v,ex,ea,c,n,l,q⟩ => ?_);subst ex;obtain rfl:u=Value.ref a:=rx;exact zgo I1 ea c n l fun u' s2 I2 ru=>⟨v,H1,I2,ru,q⟩
theorem ir(ha:PE X o ta)(hv:PE X value tv)(hs:swapsWith value (some (.Attribute o f pos')) pos.line X.env=pure false):PS X (.Assign [.Attribute o f pos'] value pos) (sFld X.K ta tv f):=by
  intro pins s σ H D I h;refine plainObj_wpAny_Assign_Attribute (thn (hv pins s σ H _ I h) fun u s1 ⟨y,H1,I1,ry,q⟩=>thn (ha pins s1 σ H1 _ I1 q) fun ov s2 ⟨x,H2,I2,rx,a,C,dx,fs,ex,ea,c,n,l,q2⟩ => ?_) hs;subst ex;obtain rfl:ov=Value.ref a:=rx;exact zgh I2 ea c n l ry fun s3 I3=>⟨σ,_,I3,q2⟩
end
section
variable{X:Cx}{pins:List (Addr×Obj)}{σ:St}{H:Hp}{s:Shared}{A:Around}{E:Value->Shared->Prop}{Q:Value->Shared->Prop}{c:Value}{b:Bool}
inductive TyOf (K:Fg) (H:Hp):V->Value->Prop where
  | non:TyOf K H .non (.type "NoneType")
  | bl (x:Bool):TyOf K H (.bl x) (.type "bool")
  | int (i:Int):TyOf K H (.int i) (.type "int")
  | str (x:Str):TyOf K H (.str x) (.type "str")
  | flt (x:UInt64):TyOf K H (.flt x) (.type "float")
  | lst {a:Addr} {xs:List V} (e:H a=some (.lst xs)):TyOf K H (.ref a) (.type "list")
  | frz {a:Addr} {o:Obj} {xs:List V} (e:H a=some (.frz o (.lst xs))):TyOf K H (.ref a) (.type "list")
  | tup {a:Addr} {xs:List V} (e:H a=some (.tup xs)):TyOf K H (.ref a) (.type "tuple")
  | dK {a:Addr} {kvs:List (Key×V)} (e:H a=some (.dK kvs)):TyOf K H (.ref a) (.type "dict")
  | dT {a:Addr} {kvs:List (List Key×V)} (e:H a=some (.dT kvs)):TyOf K H (.ref a) (.type "dict")
  | ins {a C dx:Addr} {fs:List (Str×V)} (e:H a=some (.ins C dx fs)) (cl:Cls K C) (ha:PySem.W.findIn K (.ref C) "__class__" = some (some (.builtin "object.__class__")))
      (hn:PySem.W.specialIn K (.builtin "object.__class__") "__get__" = some (some (.builtin "getset_descriptor.__get__"))) (htk:PySem.W.takesIn K (.builtin "object.__class__")=some true)
      (hm:PySem.W.mroIn K C (.type "object")=some true):TyOf K H (.ref a) (.ref C)
theorem zir{x:V}{u t:Value}(I:Inv X pins σ H s)(rx:RelV x u)(ty:TyOf X.K H x t)(e:PySem.W.kitOne X.K t c=some b)(h:∀tk,Q (.bool b) { s with toks:=tk }) :
    wpAny (model X.prog X.w) A (call (.builtin "isinstance") [u,c]) Q E s:=by
  cases ty with
  | non=>cases (show u=Value.none from rx);exact PySem.W.kia_one PySem.W.kitx_none I.kIn True.intro e (fun z=>nomatch z) h
  | bl y=>cases (show u=Value.bool y from rx);exact PySem.W.kia_one PySem.W.kitx_bool I.kIn True.intro e (fun z=>nomatch z) h
  | int i=>obtain⟨t,q⟩:=(show ∃t,u=Value.int i t from rx);cases q;exact PySem.W.kia_one PySem.W.kitx_int I.kIn True.intro e (fun z=>nomatch z) h
  | str y=>obtain⟨t,q⟩:=(show ∃t,u=Value.str y t from rx);cases q;exact PySem.W.kia_one PySem.W.kitx_str I.kIn True.intro e (fun z=>nomatch z) h
  | flt y=>obtain⟨t,q⟩:=(show ∃t,u=Value.float y t from rx);cases q;exact PySem.W.kia_one PySem.W.kitx_float I.kIn True.intro e (fun z=>nomatch z) h
  | @lst a xs ea =>
    cases (show u=Value.ref a from rx);obtain⟨_,_,n,_,h1⟩:=(show ObjOk X.prog X.w H s.heap a (.lst xs) from I.hok a _ ea);exact PySem.W.kia_one PySem.W.kitx_list I.kIn ⟨_,h1,rfl⟩ e (fun z=>nomatch z) h
  | @frz a ob xs ea =>
    cases (show u=Value.ref a from rx);obtain⟨_,_,_,n,_,h1⟩:=(show ObjOk X.prog X.w H s.heap a (.frz ob (.lst xs)) from I.hok a _ ea);exact PySem.W.kia_one PySem.W.kitx_list I.kIn ⟨_,h1,rfl⟩ e (fun z=>nomatch z) h
  | @tup a xs ea =>
    cases (show u=Value.ref a from rx);obtain⟨_,_,_,p⟩:=(show ObjOk X.prog X.w H s.heap a (.tup xs) from I.hok a _ ea);obtain⟨o,h1,h2,_⟩:=p;exact PySem.W.kia_one PySem.W.kitx_tuple I.kIn ⟨o,h1,h2⟩ e (fun z=>nomatch z) h
  | @dK a kvs ea =>
    cases (show u=Value.ref a from rx);obtain⟨_,_,vs,_,p⟩:=(show ObjOk X.prog X.w H s.heap a (.dK kvs) from I.hok a _ ea);obtain⟨o,es,ep,h1,h2,_⟩:=p;exact PySem.W.kia_one PySem.W.kitx_dict I.kIn ⟨o,h1,h2.1⟩ e (fun z=>nomatch z) h
  | @dT a kvs ea =>
    cases (show u=Value.ref a from rx);obtain⟨_,_,xs,_,o,es,ep,h1,h2,_⟩:=(show ObjOk X.prog X.w H s.heap a (.dT kvs) from I.hok a _ ea);exact PySem.W.kia_one PySem.W.kitx_dict I.kIn ⟨o,h1,h2.1⟩ e (fun z=>nomatch z) h
  | @ins a C dx fs ea cl ha hn htk hm =>
    cases (show u=Value.ref a from rx);obtain⟨mA,O,_⟩:=gy I.hok ea;obtain⟨od,J,_⟩:=O.look;exact PySem.W.kia_one (PySem.W.kitx_own (cl.get _) cl.hd ha hn htk hm) I.kIn J e (fun z=>nomatch z) h
end
end L2
namespace L2
open PySem PySem.Spec PyProof.Rows
structure Room(k:Nat)(A:Around):Prop where
  hd:A.handled=none
  dp:A.depth+3*k+5<recursionLimit
  un:A.units+16*k+200<cLine
theorem Room.mono{j k:Nat}{A:Around}(r:Room k A)(h:j<=k):Room j A:=⟨r.hd,by have:=r.dp;omega,by have:=r.un;omega⟩
theorem Room.deeper{k:Nat}{A:Around}(r:Room (k+1) A)(env:Env):Room k (A.deeper env) :=
  ⟨r.hd,by have:=r.dp;show A.depth+1+3*k+5<_;omega,by have:=r.un;show A.units+3+16*k+200<_;omega⟩
theorem zfu{A:Around}{C:Addr}{us:List Value}{kw:List (Str×Value)}:(A.under (.builtin "type.__call__" ⟨.ref C::us,kw⟩)).depth=A.depth+1:=by
  first | rfl | simp[Around.under,Code.weight,Code.isCreation,Code.isGuard,Code.isCaller,Code.frames,Code.isFrame,guardIds]
theorem zgr{A:Around}{C:Addr}{us:List Value}{kw:List (Str×Value)}:(A.under (.builtin "type.__call__" ⟨.ref C::us,kw⟩)).units=A.units+1:=by
  first | rfl | simp[Around.under,Code.cUnits,Code.frames,Code.isFrame]
theorem Room.make{k:Nat}{A:Around}(r:Room (k+1) A)(C:Addr)(us:List Value)(kw:List (Str×Value)):Room k (A.under (.builtin "type.__call__" ⟨.ref C::us,kw⟩)) :=
  ⟨r.hd,by have:=r.dp;rw[zfu];omega,by have:=r.un;rw[zgr];omega⟩
theorem Room.depth{k:Nat}{A:Around}(r:Room k A):A.depth<recursionLimit:=by have:=r.dp;omega
theorem Room.units{k:Nat}{A:Around}(r:Room k A):A.units+64<cLine:=by have:=r.un;omega
def tNil:TA:=fun _ H Q=>Q [] H
def zft(ta:TE)(tr:TA):TA:=fun σ H Q=>ta σ H fun x H1=>tr σ H1 fun xs H2=>Q (x::xs) H2
section
variable{X:Cx}{e:Expr}{es:List Expr}{te:TE}{t:TA}{pos:Pos}
theorem zb:PA X [] tNil:=fun _ _ _ _ H Q I h=>Calls.spliced_nil ⟨[],H,I,.nil,h⟩
theorem za(ha:PE X e te)(hr:PA X es t)(hs:starEach (e::es) X.env=(false,eval e X.env)::starEach es X.env:=by rfl):PA X (e::es) (zft te t):=by
  intro pos pins s σ H Q I h;rw[hs]
  show wpAny _ _ (spliced ((false,eval e X.env)::backTo pos (starEach es X.env))) _ _ s
  refine Calls.spliced_cons (thn (ha pins s σ H _ I h) fun u s1 ⟨x,H1,I1,r1,q1⟩ => ?_);exact thn (hr pos pins s1 σ H1 _ I1 q1) fun us s2 ⟨xs,H2,I2,r2,q2⟩=>⟨x::xs,H2,I2,.cons r1 r2,q2⟩
def tTup(t:TA):TE:=fun σ H Q=>t σ H fun xs H1=>xs.length<=sizeLine/\∀p,H1 p=none->Q (.ref p) (upd H1 p (.tup xs))
def tLst(t:TA):TE:=fun σ H Q=>t σ H fun xs H1=>xs.length<=sizeLine/\∀p,H1 p=none->Q (.ref p) (upd H1 p (.lst xs))
theorem xn{x1}(h:PA X es t):PE X (.Tuple es x1 pos) (tTup t):=by
  intro pins s σ H Q I hq;refine wpAny_Tuple_spliced (thn (h pos pins s σ H _ I hq) fun us s1 ⟨xs,H1,I1,r,z,q⟩=>⟨by rw[<-r.length];exact z,?_⟩);have hf:H1 s1.heap.objs.size=none:=I1.hok.fresh (Zm _);refine⟨.ref s1.heap.objs.size,upd H1 s1.heap.objs.size (.tup xs),I1.laid (t':=s1.toks) (fun b u e=>Heap.get?_push_of_some _ e) (Zm _) ?_,rfl,q _ hf⟩;exact⟨z,us,r,⟨_,Heap.get?_push_size _ rfl,rfl,_,rfl,rfl⟩⟩
theorem we(h:PA X es t):PE X (.List es pos) (tLst t):=by
  intro pins s σ H Q I hq;refine wpAny_List_spliced (thn (h pos pins s σ H _ I hq) fun us s1 ⟨xs,H1,I1,r,z,q⟩=>⟨by rw[<-r.length];exact z,?_⟩);have hf:H1 s1.heap.objs.size=none:=I1.hok.fresh (Zm _);refine⟨.ref s1.heap.objs.size,upd H1 s1.heap.objs.size (.lst xs),I1.laid (t':=s1.toks) (fun b u e=>Heap.get?_push_of_some _ e) (Zm _) ?_,rfl,q _ hf⟩;exact⟨z,us,0,r,Heap.get?_push_size _ rfl⟩
end
abbrev Sp:=List V->Hp->VK->XK->Prop
abbrev CXT:=List Env->Hp->Shared->XK->Value->Shared->Prop
structure Env0(P:Program)(w:World)(K:Fg)(mg:Str->Option Value)(base:Heap)(A:Around)(outer:List Env)(s:Shared)(H:Hp):Prop where
  frames:A.frames=some outer
  mod:Mod K mg base
  bs:∀b o,base.get? b=some o->s.heap.get? b=some o/\H b=none
  bsz:base.objs.size<=s.heap.objs.size
  funs:s.heap.FunFrames base outer
  frf:∀b∈frs outer,H b=none
  hok:HOk P w H s.heap
  bare:AllBare s.gens
def CE(outer:List Env)(P:Program)(w:World)(H:Hp)(s:Shared)(Q:VK)(u:Value)(s':Shared):Prop :=
  ∃v H',s'.os=s.os/\AllBare s'.gens/\Un (frs outer) [] H H' s.heap s'.heap/\HOk P w H' s'.heap/\RelV v u/\Q v H'
def CR(CX:CXT)(outer:List Env)(P:Program)(w:World)(H:Hp)(s:Shared)(Q:VK)(E:XK)(r:Result)(s':Shared):Prop :=
  match r with
  | .ok (.ret u)=>CE outer P w H s Q u s'
  | .ok _=>False
  | .error e=>CX outer H s E e s'
structure FnOk(P:Program)(w:World)(K:Fg)(mg:Str->Option Value)(base:Heap)(CX:CXT)(k:Nat)(f:Addr)(fd:FuncData)(ps:List Str)(sp:Sp):Prop where
  len:∀vs H Q E,sp vs H Q E->vs.length=ps.length
  run:∀(A:Around) (outer:List Env) (s:Shared) (H:Hp) (args:Args) (us:List Value) (vs:List V) (Q:VK) (E:XK),Room k A->Env0 P w K mg base A outer s H->BindsTo s fd args (ps.zip us)->Vals vs us->sp vs H Q E ->
    codeAny (model P w) A (.call (.ref f) args) (CR CX outer P w H s Q E) s
theorem Env0.make{P:Program}{w:World}{K:Fg}{mg:Str->Option Value}{base:Heap}{A:Around}{outer:List Env}{s:Shared}{H:Hp}(e:Env0 P w K mg base A outer s H)(C:Addr)(us:List Value)(kw:List (Str×Value)) :
    Env0 P w K mg base (A.under (.builtin "type.__call__" ⟨.ref C::us,kw⟩)) outer s H:=⟨by first | exact e.frames | (simpa[Around.under,Code.envs,Code.isFrame,pushEnvs] using e.frames),e.mod,e.bs,e.bsz,e.funs,e.frf,e.hok,e.bare⟩
section
variable{X:Cx}{pins:List (Addr×Obj)}{σ:St}{H:Hp}{s s':Shared}
theorem Inv.env0(I:Inv X pins σ H s):Env0 X.prog X.w X.K X.mg X.base X.A X.stack s H :=
  ⟨I.ok.frames,I.ok.mod,I.bs,Zd I.ok.bsz I.sz,I.stack,I.stkFree,I.hok,I.bare⟩
theorem Inv.after{Q:VK}{u:Value}(I:Inv X pins σ H s)(h:CE X.stack X.prog X.w H s Q u s'):EP X pins σ Q u s':=by
  obtain⟨v,H',os,bare,un,hok,r,q⟩:=h;obtain⟨hh,g,d,t,os'⟩:=s';obtain rfl:os'=s.os:=os;exact⟨v,H',I.call (h':=hh) (g':=g) (d':=d) (t':=t) (ch:=[]) un hok bare (fun b z=>absurd z (by simp)),r,q⟩
end
def zb5(sp:Sp)(dvs:List V)(E:XK)(t:TA):TE:=fun σ H Q=>t σ H fun vs H1=>sp (vs++dvs) H1 Q E
def zb2(C:Addr)(m:Str)(sp:Sp)(dvs:List V)(E:XK)(ta:TE)(t:TA):TE:=fun σ H Q=>ta σ H fun x H1=>∃a dx fs,x=.ref a/\H1 a=some (.ins C dx fs)/\fs.lookup m=none /\
  t σ H1 fun vs H2=>sp (x::(vs++dvs)) H2 Q E
def zb0(C:Addr)(sp:Sp)(dvs:List V)(E:XK)(t:TA):TE:=fun σ H Q=>t σ H fun vs H1=>∀x dx,H1 x=none->H1 dx=none->dx≠x ->
  sp (.ref x::(vs++dvs)) (upd (upd H1 dx (.own x)) x (.ins C dx [])) (fun v H2=>v=.non/\Q (.ref x) H2) E
def Binds(K:Fg)(fd:FuncData)(ps:List Str)(ds:List Value):Prop :=
  ∀(s:Shared) (us:List Value),K.In s.heap->(us++ds).length=ps.length->BindsTo s fd ⟨us,[]⟩ (ps.zip (us++ds))
theorem Binds.all{K:Fg}{fd:FuncData}{ps:List Str}(h:∀us:List Value,us.length=ps.length->bindArgs fd ⟨us,[]⟩=pure (ps.zip us)):Binds K fd ps []:=fun s us _ hl=>by
  rw[ZP]at hl ⊢;exact .of_eq (h us hl)
def ot(CX:CXT)(X:Cx)(E:XK):Prop:=∀(pins:List (Addr×Obj)) (σ:St) (H:Hp) (s:Shared) (e:Value) (s':Shared),Inv X pins σ H s->CX X.stack H s E e s'->X.xe e s'
section
variable{X:Cx}{CX:CXT}{k:Nat}{f C:Addr}{fd:FuncData}{ps:List Str}{sp:Sp}{dvs:List V}{ds:List Value}{E:XK}{x m:Str}{p pos apos:Pos}{e o:Expr}{es:List Expr}{ta:TE}{t:TA}
theorem ziq{pins:List (Addr×Obj)}{σ:St}{H:Hp}{s:Shared}{Q:VK}{us:List Value}{vs:List V}(F:FnOk X.prog X.w X.K X.mg X.base CX k f fd ps sp)(hr:Room k X.A)(hb:Binds X.K fd ps ds)(hd:Vals dvs ds)(hx:ot CX X E)
    (I:Inv X pins σ H s) (r:Vals vs us) (h:sp (vs++dvs) H Q E):wpAny (model X.prog X.w) X.A (call (.ref f) us) (EP X pins σ Q) X.xe s:=by
  have r2:Vals (vs++dvs) (us++ds):=r.append hd;have hl:(us++ds).length=ps.length:=by rw[<-r2.length];exact F.len _ _ _ _ h
  refine wpAny_call (codeAny_mono (F.run X.A X.stack s H ⟨us,[]⟩ (us++ds) (vs++dvs) Q E hr I.env0 (hb s us I.kIn hl) r2 h) fun r s' hq => ?_)
  cases r with
  | error e=>exact hx pins σ H s e s' I hq
  | ok fl =>
    cases fl with
    | ret u=>exact I.after hq
    | next=>exact False.elim hq
    | brk=>exact False.elim hq
    | cont=>exact False.elim hq
theorem zfe(F:FnOk X.prog X.w X.K X.mg X.base CX k f fd ps sp)(hr:Room k X.A)(hg:Gl X x)(hm:X.mg x=some (.ref f))(hk:PySem.W.keepIn X.K (.ref f)=true)(hb:Binds X.K fd ps ds)(hd:Vals dvs ds)(hx:ot CX X E)
    (ha:PA X (e::es) t) (hdb:(x==("__debug__" : Str))=false:=by decide) (he:starEach (e::es) X.env=(false,eval e X.env)::starEach es X.env:=by rfl) (hpl:(backTo pos (starEach es X.env)).any (·.1)=false:=by rfl) :
    PE X (.Call (.Name x p) (e::es) [] pos) (zb5 sp dvs E t):=by
  intro pins s σ H Q I h;refine wpAny_Call_Name_kw (mh I hg hm ?_ hdb);refine PySem.W.callWith_K (h₀:=X.base) I.ok.mod.kin hk (thn (ha pos pins s σ H _ I h) fun us s1 ⟨vs,H1,I1,r,q⟩=>⟨I1.kIn,?_⟩) he hpl;exact ziq F hr hb hd hx I1 r q
theorem zlw{pl:Sem Bool}(he:PE X o ta)(c:Cls X.K C)(hm:Meth X.K C m f)(F:FnOk X.prog X.w X.K X.mg X.base CX k f fd ps sp)(hr:Room k X.A)(hb:Binds X.K fd ps ds)(hd:Vals dvs ds)(hx:ot CX X E)(ha:PA X (e::es) t)
    (hst:starEach (e::es) X.env=(false,eval e X.env)::starEach es X.env:=by rfl) (hpl:(backTo pos (starEach es X.env)).any (·.1)=false:=by rfl)
    (ht:eval (.Call (.Attribute o m apos) (e::es) [] pos) X.env=(do
      let ov <-eval o X.env
      standAt apos.atName
      let (f,first) <-holding [ov] (getMethod ov m pl)
      callWith pos f first (backTo pos (starEach (e::es) X.env)) (backToKw pos (keywordEach [] X.env))):=by rfl) :
    PE X (.Call (.Attribute o m apos) (e::es) [] pos) (zb2 C m sp dvs E ta t):=by
  intro pins s σ H Q I h;refine PySem.W.methodCall_KW (pl:=pl) (thn (he pins s σ H _ I h) fun u s1 ⟨x,H1,I1,rx,a,dx,fs,ex,ea,l,q⟩ => ?_) ht;subst ex;obtain rfl:u=Value.ref a:=rx;refine cz I1 ea c hm l ?_;refine PySem.W.callWith_K (first:=[.ref a]) (h₀:=X.base) I.ok.mod.kin hm.kp (thn (ha pos pins s1 σ H1 _ I1 q) fun us s2 ⟨vs,H2,I2,r,q2⟩=>⟨I2.kIn,?_⟩) hst hpl;exact ziq (us:=.ref a::us) (vs:=.ref a::vs) F hr hb hd hx I2 (.cons rfl r) q2
structure Mk(K:Fg)(C f:Addr):Prop where
  makes:PySem.W.makesIn K C=true
  init:PySem.W.findIn K (.ref C) "__init__" = some (some (.ref f))
  fn:PySem.W.isFn K (.ref f)=true
  kp:PySem.W.keepIn K (.ref C)=true
theorem zjg{pins:List (Addr×Obj)}{σ:St}{H:Hp}{s:Shared}{Q:VK}{us:List Value}{vs:List V}(M:Mk X.K C f)(F:FnOk X.prog X.w X.K X.mg X.base CX k f fd ps sp)(hr:Room (k+1) X.A)(hb:Binds X.K fd ps ds)(hd:Vals dvs ds)
    (hx:ot CX X E) (I:Inv X pins σ H s) (r:Vals vs us)
    (h:∀x dx,H x=none->H dx=none->dx≠x->sp (.ref x::(vs++dvs)) (upd (upd H dx (.own x)) x (.ins C dx [])) (fun v H2=>v=.non/\Q (.ref x) H2) E) :
    wpAny (model X.prog X.w) X.A (call (.ref C) us) (EP X pins σ Q) X.xe s:=by
  have hq:=h (s.heap.objs.size+1) s.heap.objs.size (I.hok.fresh (YN _)) (I.hok.fresh (Zm _)) (Zs (Yr _));have I2:=Inv.made (C:=C) I;have r2:Vals (V.ref (s.heap.objs.size+1)::(vs++dvs)) (Value.ref (s.heap.objs.size+1)::(us++ds)):=.cons rfl (r.append hd)
  have hl:(Value.ref (s.heap.objs.size+1)::us++ds).length=ps.length:=by
    have e:=r2.length;rw[F.len _ _ _ _ hq]at e;exact e.symm
  refine wpAny_call (zjq (f:=f) I.kIn M.makes M.init (beq_iff_eq.mp M.fn) (codeAny_mono (F.run _ X.stack _ _ ⟨Value.ref (s.heap.objs.size+1)::us,[]⟩ (Value.ref (s.heap.objs.size+1)::(us++ds)) _ _ E (hr.make C us [])
    (I2.env0.make C us []) (hb _ (Value.ref (s.heap.objs.size+1)::us) I2.kIn hl) r2 hq) fun r s' hq' => ?_))
  cases r with
  | error e=>exact hx pins σ _ _ e s' I2 hq'
  | ok fl =>
    cases fl with
    | ret u =>
      obtain⟨v,H',I3,rv,ev,q3⟩:=I2.after hq';subst ev;exact⟨rv,⟨V.ref (s.heap.objs.size+1),H',I3,rfl,q3⟩⟩
    | next=>exact False.elim hq'
    | brk=>exact False.elim hq'
    | cont=>exact False.elim hq'
theorem zjx(M:Mk X.K C f)(F:FnOk X.prog X.w X.K X.mg X.base CX k f fd ps sp)(hr:Room (k+1) X.A)(hg:Gl X x)(hm:X.mg x=some (.ref C))(hb:Binds X.K fd ps ds)(hd:Vals dvs ds)(hx:ot CX X E)
    (hdb:(x==("__debug__" : Str))=false:=by decide):PE X (.Call (.Name x p) [] [] pos) (zb0 C sp dvs E tNil):=by
  intro pins s σ H Q I h;refine wpAny_Call_Name_kw (mh I hg hm ?_ hdb);exact PySem.W.callWith_K0 I.kIn M.kp (zjg (us:=[]) M F hr hb hd hx I .nil h)
end
section
variable{X:Cx}{CX:CXT}{k:Nat}{f C:Addr}{fd:FuncData}{ps ks:List Str}{sp:Sp}{E:XK}{x m:Str}{p pos apos kpos:Pos}{e o:Expr}{es:List Expr}{kws:List Keyword}{te ta:TE}{t tk:TA}{nm:Option Str}
variable{g:List Value->List Value->List Value}{gV:List V->List V->List V}
end
structure zq(N P:List Str)(sc:Scope):Prop where
  kind:sc.kind=.function
  co:sc.isCoroutine=false
  gen:sc.isGenerator=false
  nd:N.Nodup
  pre:N.take P.length=P
  par:∀x∈P,sc.names.lookup x=some .local\/sc.names.lookup x=some .cell
  nofree:∀y∈sc.names,y.2≠.free
theorem za2{kindOf:Str->Option NameKind}{x:Str}:∀{binds:List (Str×Value)} {m:Str->Option Value},(∀v,(x,v)∉binds)->bindL kindOf binds m x=m x
  | [],_,_=>rfl
  | (n,v)::r,m,h=>by
    unfold bindL;rw[za2 fun w hw=>h w (Zv _ hw)]
    split
    . have:x≠n:=by rintro rfl;exact h v ZA
      simp[this]
    . rfl
theorem zat{kindOf:Str->Option NameKind}{x:Str}:∀{binds:List (Str×Value)} {m:Str->Option Value},(∀v,(x,v)∉binds)->bindC kindOf binds m x=m x
  | [],_,_=>rfl
  | (n,v)::r,m,h=>by
    unfold bindC;rw[zat fun w hw=>h w (Zv _ hw)]
    split
    . rfl
    . have:x≠n:=by rintro rfl;exact h v ZA
      simp[this]
theorem zbh{kindOf:Str->Option NameKind}{x:Str}{v:Value}:∀{P:List Str} {vs:List Value} {i:Nat} {m:Str->Option Value},P.Nodup->P[i]? = some x->vs[i]? = some v->kindOf x=some .local ->
    bindL kindOf (P.zip vs) m x=some v
  | [],_,_,_,_,h,_,_=>by simp at h
  | _::_,[],_,_,_,_,h,_=>by simp at h
  | p::P,w::vs,0,m,nd,h1,h2,hk=>by
    simp at h1 h2;subst h1;subst h2
    show bindL kindOf ((p,w)::P.zip vs) m p=_
    unfold bindL;rw[za2 fun v hv=>(Yc.mp nd).1 (YC hv).1,if_pos hk];simp
  | p::P,w::vs,i+1,m,nd,h1,h2,hk=>by
    show bindL kindOf ((p,w)::P.zip vs) m x=_
    unfold bindL;exact zbh (i:=i) (Yc.mp nd).2 (by simpa using h1) (by simpa using h2) hk
theorem za9{kindOf:Str->Option NameKind}{x:Str}{v:Value}:∀{P:List Str} {vs:List Value} {i:Nat} {m:Str->Option Value},P.Nodup->P[i]? = some x->vs[i]? = some v->kindOf x≠some .local ->
    bindC kindOf (P.zip vs) m x=some v
  | [],_,_,_,_,h,_,_=>by simp at h
  | _::_,[],_,_,_,_,h,_=>by simp at h
  | p::P,w::vs,0,m,nd,h1,h2,hk=>by
    simp at h1 h2;subst h1;subst h2
    show bindC kindOf ((p,w)::P.zip vs) m p=_
    unfold bindC;rw[zat fun v hv=>(Yc.mp nd).1 (YC hv).1,if_neg hk];simp
  | p::P,w::vs,i+1,m,nd,h1,h2,hk=>by
    show bindC kindOf ((p,w)::P.zip vs) m x=_
    unfold bindC;exact za9 (i:=i) (Yc.mp nd).2 (by simpa using h1) (by simpa using h2) hk
def start(N:List Str)(vs:List V):St:=vs.map some++List.replicate (N.length-vs.length) none
def cxOf(CX:CXT)(P:Program)(w:World)(K:Fg)(mg:Str->Option Value)(base:Heap)(N:List Str)(qual:Str)(scope:Scope)(f:Addr)(cd:Value)(A:Around)(outer:List Env)(s:Shared)(H:Hp)(E:XK):Cx where
  prog:=P
  w:=w
  K:=K
  mg:=mg
  base:=base
  A:=A.deeper (envOfC qual scope s.heap.objs.size f cd)
  N:=N
  s₀:=s
  H₀:=H
  env:=envOfC qual scope s.heap.objs.size f cd
  outer:=outer
  stack:=envOfC qual scope s.heap.objs.size f cd::outer
  ex:=[]
  calm:=true
  fn:=fun _=>true
  pn:=[]
  xe:=fun e s'=>wpAny (model P w) (A.deeper (envOfC qual scope s.heap.objs.size f cd)) (leaving (envOfC qual scope s.heap.objs.size f cd) e) (fun _ s''=>CX outer H s E e s'') (fun e' s''=>CX outer H s E e' s'') s'
theorem zcq{sc:Scope}{n:Nat}{x:Str}(h:sc.names.lookup x=some .cell):∃c,(cellsFrom n sc.names []).lookup x=some c:=by
  have q:=PySem.W.cellsFrom_some sc.names n [] (.inl h);exact Option.isSome_iff_exists.mp q
theorem zg7{CX:CXT}{P:Program}{w:World}{K:Fg}{mg:Str->Option Value}{base:Heap}{N ps:List Str}{qual:Str}{scope:Scope}{f:Addr}{cd:Value}{A:Around}{outer:List Env}{s s1:Shared}{H:Hp}{E:XK}{us:List Value}{vs:List V}
    (S:zq N ps scope) (hd:A.handled=none) (e0:Env0 P w K mg base A outer s H) (hl:vs.length=ps.length) (r:Vals vs us)
    (x:InCallC s s.heap.objs.size (bindL (envOfC qual scope s.heap.objs.size f cd).kindOf (ps.zip us) fun _=>none) (cellsFrom (s.heap.objs.size+1) scope.names []) (bindC (envOfC qual scope s.heap.objs.size f cd).kindOf (ps.zip us) fun _=>none) s1) :
    Inv (cxOf CX P w K mg base N qual scope f cd A outer s H E) [] (start N vs) H s1:=by
  have hpl:ps.length<=N.length:=by have:=congrArg List.length S.pre;rw[Zj]at this;omega
  obtain⟨h1,tk,rfl,hk⟩:=x.done;have noA:∀b:Addr,b∉(cxOf CX P w K mg base N qual scope f cd A outer s H E).ex:=fun b z=>absurd (show b∈([]:List Addr) from z) (by simp)
  refine⟨⟨e0.mod,S.kind,rfl,rfl,Zm _,fun y z c h1 h2 => ?_,fun y hy => ?_,fun y c _ h => ?_,fun _=>hd,Around.frames_deeper e0.frames,.inr ⟨rfl,rfl⟩,fun b z=>absurd z (noA b),e0.bs,e0.bsz,fun b _ _=>noA b,fun b z=>absurd z (noA b),e0.funs,e0.frf⟩,
    rfl,e0.bare,Un.kept hk,⟨_,x.toInCall.ns,fun i y v h1 h2 h3 => ?_⟩,fun y c h=>⟨_,x.cell y c h⟩,e0.hok.fresh (Zm _),fun y c h => ?_,fun p hp=>absurd (show p∈([]:List (Addr×Obj)) from hp) (by simp),e0.hok.kept hk,?_⟩
  . exact name_of_addr x.apart (PySem.mem_of_lookup h1) (PySem.mem_of_lookup h2)
  . have hy:scope.names.lookup y=some .cell\/scope.names.lookup y=some .free:=hy
    rcases hy with hy | hy
    . exact zcq hy
    . exact absurd rfl (S.nofree _ (PySem.mem_of_lookup hy))
  . exact YW (x.above y c (PySem.mem_of_lookup h))
  . have hi:i<vs.length:=by
      unfold start at h2
      by_cases hi:i<vs.length
      . exact hi
      . rw[Zf (by simpa using hi)]at h2
        rw[Yl]at h2
        split at h2 <;> cases h2
    have ha:vs[i]? = some v:=by
      unfold start at h2;rw[Zg (by simpa using hi),Ze]at h2
      cases e:vs[i]? with
      | none=>rw[e]at h2;cases h2
      | some a=>rw[e]at h2;cases h2;rfl
    obtain⟨u,hu,rv⟩:=r.get ha
    have hp:ps[i]? = some y:=by
      rw[<-S.pre,Yy (by omega)];exact h1
    have ndP:ps.Nodup:=by rw[<-S.pre];exact S.nd.sublist (YU _ _)
    refine⟨u,rv,?_⟩
    rcases S.par y (Zi hp) with k | k
    . exact .inl ⟨k,zbh ndP hp hu k⟩
    . obtain⟨c,e⟩:=zcq (n:=s.heap.objs.size+1) k
      refine .inr ⟨.inl k,c,e,?_⟩;have q:=x.cell y c e;rw[za9 ndP hp hu (by show scope.names.lookup y≠_;rw[k];decide)]at q;exact q
  . exact e0.hok.fresh (YW (x.above y c (PySem.mem_of_lookup h)))
  . unfold start
    show _=N.length
    rw[Zo,Za,ZI];omega
theorem zfr{CX:CXT}{P:Program}{w:World}{K:Fg}{mg:Str->Option Value}{base:Heap}{k:Nat}{f:Addr}{name qual:Str}{params:Arguments}{body:List Stmt}{scope:Scope}{dV kV doc pm cdv ct oc:Value}{an od:Option Addr}
    {osl:Array (Option Value)} {N ps:List Str} {sp:Sp} (lk:K.lookup f=some ⟨oc,od,.func (PySem.W.fnOf name qual params body scope dV kV doc pm an cdv ct),osl⟩) (hcd:PySem.W.codeIn K cdv qual=true) (S:zq N ps scope)
    (len:∀vs H Q E,sp vs H Q E->vs.length=ps.length)
    (hbody:∀(A:Around) (outer:List Env) (s:Shared) (H:Hp) (vs:List V) (Q:VK) (E:XK),Room k (A.deeper (envOfC qual scope s.heap.objs.size f cdv))->sp vs H Q E ->
      ∃t,PSs (cxOf CX P w K mg base N qual scope f cdv A outer s H E) body t/\t { nx:=fun _ H'=>Q .non H',rt:=Q } (start N vs) H) :
    FnOk P w K mg base CX (k+1) f (PySem.W.fnOf name qual params body scope dV kV doc pm an cdv ct) ps sp:=by
  refine⟨len,fun A outer s H args us vs Q E hr e0 hb r hsp => ?_⟩;have hl:=len _ _ _ _ hsp;have KX:K.In s.heap:=e0.mod.kin.keeps fun b o e=>(e0.bs b o e).1
  have lim:s.heap.NoLimit:=e0.mod.nolimit.keeps fun b o e=>(e0.bs b o e).1
  have hkind:∀y∈ps.zip us,scope.names.lookup y.1=some .local\/(scope.names.lookup y.1=some .cell/\((cellsFrom (s.heap.objs.size+1) scope.names []).lookup y.1).isSome=true):=fun⟨n,v⟩ hy=>by
    rcases S.par n (YC hy).1 with q | q
    . exact .inl q
    . exact .inr ⟨q,PySem.W.cellsFrom_some _ _ _ (.inl q)⟩
  refine codeAny_call_function hr.depth (KX _ _ lk) rfl S.co S.gen rfl (PySem.W.codeRec_of KX hcd) (hb _ _ _ _ ?_);refine wpAny_newFunctionEnv_cells S.kind hkind fun env he s1 x => ?_
  subst he;refine⟨lim.keeps x.toInCall.keep,codeAny_func ?_⟩;obtain⟨t,ht,hq⟩:=hbody A outer s H vs Q E (hr.deeper _) hsp;have I:Inv (cxOf CX P w K mg base N qual scope f cdv A outer s H E) [] (start N vs) H s1:=zg7 S hr.hd e0 hl r x;refine wpAny_mono (ht [] s1 (start N vs) H _ I hq) (fun fl s' hs => ?_) fun e s' hs=>hs
  have fin:∀{σ':St} {H':Hp} {v:V} {u:Value},Inv (cxOf CX P w K mg base N qual scope f cdv A outer s H E) [] σ' H' s'->RelV v u->Q v H'->CE outer P w H s Q u s' :=
    fun {σ' H' v u} J rv q=>⟨v,H',J.os,J.bare,J.base,J.hok,rv,q⟩
  cases fl with
  | ret u =>
    obtain⟨v,σ',H',J,rv,q⟩:=hs;exact fin J rv q
  | next =>
    obtain⟨σ',H',J,q⟩:=hs;exact fin (v:=V.non) (u:=Value.none) J rfl q
  | brk =>
    obtain⟨_,_,_,q⟩:=hs;exact False.elim q
  | cont =>
    obtain⟨_,_,_,q⟩:=hs;exact False.elim q
end L2
namespace L2
open PySem PySem.Spec PyProof.Rows
section
variable{X:Cx}{x:Str}{p pos:Pos}{e:Expr}{es:List Expr}{t:TA}{id T:String}{r:List V->Hp->VK->Prop}
def tCB(r:List V->Hp->VK->Prop)(t:TA):TE:=fun σ H Q=>t σ H fun vs H1=>r vs H1 Q
theorem zx (hc:w9 X (.builtin id) r) (hg:Gl X x) (hm:X.mg x=none) (hv:bootBuiltins x=some (.builtin id)) (ha:PA X (e::es) t) (hn:x ≠ "__name__" := by decide) (hdb:(x==("__debug__" : Str))=false:=by decide)
    (he:starEach (e::es) X.env=(false,eval e X.env)::starEach es X.env:=by rfl) (hpl:(backTo pos (starEach es X.env)).any (·.1)=false:=by rfl):PE X (.Call (.Name x p) (e::es) [] pos) (tCB r t):=by
  intro pins s σ H Q I h;refine wpAny_Call_Name_kw (ou I hg hm hv ?_ hn hdb);exact PyProof.Rows.callWith_builtin1 (thn (ha pos pins s σ H _ I h) fun us s1 ⟨vs,H1,I1,r1,q1⟩=>hc pins s1 σ H1 vs us Q I1 r1 q1) he hpl
theorem y4 (hc:w9 X (.type T) r) (hg:Gl X x) (hm:X.mg x=none) (hv:bootBuiltins x=some (.type T)) (ha:PA X (e::es) t) (hn:x ≠ "__name__" := by decide) (hdb:(x==("__debug__" : Str))=false:=by decide)
    (he:starEach (e::es) X.env=(false,eval e X.env)::starEach es X.env:=by rfl) (hpl:(backTo pos (starEach es X.env)).any (·.1)=false:=by rfl):PE X (.Call (.Name x p) (e::es) [] pos) (tCB r t):=by
  intro pins s σ H Q I h;refine wpAny_Call_Name_kw (ou I hg hm hv ?_ hn hdb);exact PyProof.Rows.callWith_type1 (thn (ha pos pins s σ H _ I h) fun us s1 ⟨vs,H1,I1,r1,q1⟩=>hc pins s1 σ H1 vs us Q I1 r1 q1) he hpl
end
end L2
namespace HT
open PySem PyProof.Rows
section
open PySem.SeqAt
open PySem.AutoSeq1 (wpAny_loadPart')
open PySem.MeetsSeq PySem.MeetsSeq2 PySem.MeetsSeq3
end
section
variable{prog:Program}{w:World}{A:Around}{E:Value->Shared->Prop}{s:Shared}
theorem cat_tup{t b:Addr}{vs ws:List Value}{Q:Value->Shared->Prop}(ht:IsTup s.heap t vs.toArray)(hb:IsTup s.heap b ws.toArray)(hv:vs≠[])
    (h1:ws=[]->Q (.ref t) s) (h2:ws≠[]->Q (.ref s.heap.objs.size) { s with heap:=s.heap.push { cls:=.type "tuple", data:=.seq (vs++ws).toArray } })
    (hsz:vs.length+ws.length<=sizeLine):wpAny (model prog w) A (binaryOp .Add (.ref t) (.ref b)) Q E s:=by
  obtain⟨⟨cls,dd,data,sl⟩,ho,hc,n,hd⟩:=id ht;obtain⟨⟨cls2,dd2,data2,sl2⟩,ho2,hc2,n2,hd2⟩:=id hb;simp only at hc hd hc2 hd2;subst hc hd hc2 hd2;have e:vs.toArray++ws.toArray=(vs++ws).toArray:=by simp
  by_cases hw:ws=[]
  . exact concat_meets ⟨_,ho,rfl⟩ ⟨_,ho2,rfl⟩ noFill_tuple_add seq_tuple_add PySem.F.slot_tuple_add PySem.F.entry_tuple_add (PySem.F.args_tuple_add_2 _ _)
      (tuple_addW1 t b vs.toArray ws.toArray n n2 dd dd2 sl sl2 (by simpa using hv) (by simp[hw])) ⟨ho,ho2,h1 hw⟩
  . refine concat_meets ⟨_,ho,rfl⟩ ⟨_,ho2,rfl⟩ noFill_tuple_add seq_tuple_add PySem.F.slot_tuple_add PySem.F.entry_tuple_add (PySem.F.args_tuple_add_2 _ _)
      (tuple_addW2 t b vs.toArray ws.toArray n n2 dd dd2 sl sl2 (by simpa using hv) (by simpa using hw) (by rw[Zr,Zr];exact hsz)) ⟨ho,ho2,?_⟩
    rw[e];exact h2 hw
def sIx(n d:Nat):Option Int->Nat
  | none=>d
  | some v=>if v<0 then(v+(n:Int)).toNat else min v.toNat n
theorem sIx_none(n d:Nat):sIx n d none=d:=rfl
theorem sIx_nat(n d k:Nat):sIx n d (some (k:Int))=min k n:=by
  show(if (k:Int)<0 then((k:Int)+(n:Int)).toNat else min (k:Int).toNat n)=min k n
  rw[if_neg (by omega),Zw]
end
end HT
namespace L2
open PySem PySem.Spec PyProof.Rows
abbrev TO:=St->Hp->(Option Int->Hp->Prop)->Prop
def PO(X:Cx)(e:Option Expr)(t:TO):Prop :=
  ∀(pins:List (Addr×Obj)) (s:Shared) (σ:St) (H:Hp) (Q:Option Int->Hp->Prop),Inv X pins σ H s->t σ H Q ->
    wpAny (model X.prog X.w) X.A (evalPart e X.env) (fun u s'=>∃o H',Inv X pins σ H' s'/\IsPart u o/\Q o H') X.xe s
def zet:TO:=fun _ H Q=>Q none H
def tPart(t:TE):TO:=fun σ H Q=>t σ H fun x H1=>∃i,x=.int i/\Q (some i) H1
theorem zf4{ns:List Int}:∀{us:List Value},Vals (ns.map V.int) us->IntsAre us ns:=by
  induction ns with
  | nil=>intro us r;rw[Yi]at r;cases r;exact .nil
  | cons n ns ih =>
    intro us r;rw[ZM]at r
    cases r with
    | cons r1 r2 =>
      obtain⟨t,e⟩:=r1;subst e;exact .cons n t (ih r2)
section
variable{X:Cx}{e:Expr}{te:TE}{lo hi:Option Expr}{tl th:TO}{pos p2:Pos}
theorem jd:PO X none zet:=by
  intro pins s σ H Q I h;rw[evalPart_none];exact wpAny_pure ⟨none,H,I,.none,h⟩
theorem mj(h:PE X e te):PO X (some e) (tPart te):=by
  intro pins s σ H Q I hw;rw[evalPart_some];refine thn (h pins s σ H _ I hw) fun u s1 ⟨x,H1,I1,r1,q1⟩ => ?_
  obtain⟨i,rfl,q⟩:=q1;obtain⟨t,rfl⟩:=r1;exact⟨some i,H1,I1,.int i t,q⟩
def SlR(X:Cx)(r:V->Option Int->Option Int->Hp->VK->Prop):Prop :=
  ∀(pins:List (Addr×Obj)) (s:Shared) (σ:St) (H:Hp) (x:V) (v vl vu:Value) (lo hi:Option Int) (sl:Addr) (Q:VK),Inv X pins σ H s->RelV x v->s.heap.IsSliceOf sl vl vu .none->IsPart vl lo->IsPart vu hi->r x lo hi H Q ->
    ∃T id,typeLookup (.type T) "__getitem__" = pure (some (.builtin id))/\s.TypeIs v T/\wpAny (model X.prog X.w) X.A (getItem v (.ref sl)) (EP X pins σ Q) X.xe s
def tSl(r:V->Option Int->Option Int->Hp->VK->Prop)(te:TE)(tl th:TO):TE:=fun σ H Q=>te σ H fun x H1=>tl σ H1 fun l H2=>th σ H2 fun u H3=>r x l u H3 Q
theorem lc{r:V->Option Int->Option Int->Hp->VK->Prop}(hr:SlR X r)(he:PE X e te)(hl:PO X lo tl)(hu:PO X hi th):PE X (.Subscript e (.Slice lo hi none p2) pos) (tSl r te tl th):=by
  intro pins s σ H Q I h;refine Subscript_ (thn (he pins s σ H _ I h) fun v s1 ⟨x,H1,I1,r1,q1⟩ => ?_);refine wpAny_Slice (thn (hl pins s1 σ H1 _ I1 q1) fun vl s2 ⟨l,H2,I2,pl,q2⟩=>thn (hu pins s2 σ H2 _ I2 q2) fun vu s3 ⟨u,H3,I3,pu,q3⟩ => ?_);rw[evalPart_none];refine wpAny_pure ?_;have I4:Inv X pins σ H3 { s3 with heap:=s3.heap.push { cls:=.type "slice", data:=.fields #[vl,vu,.none] } }:=I3.kept (t':=s3.toks) fun b ob q=>Heap.get?_push_of_some _ q
  obtain⟨T,id,hT,ht,hg⟩:=hr pins { s3 with heap:=s3.heap.push { cls:=.type "slice", data:=.fields #[vl,vu,.none] } } σ H3 x v vl vu l u s3.heap.objs.size Q I4 r1 (Heap.IsSliceOf.new ..) pl pu q3
  show wpAny (model X.prog X.w) X.A (subscriptTail e (.Slice lo hi none p2) v (.ref s3.heap.objs.size)) (EP X pins σ Q) X.xe { s3 with heap:=s3.heap.push { cls:=.type "slice", data:=.fields #[vl,vu,.none] } }
  exact tail_any (ops:=[.ref s3.heap.objs.size,v]) ht hT hg (by with_unfolding_all rfl)
def cutV(xs:List V)(lo hi:Option Int):List V:=(xs.drop (HT.sIx xs.length 0 lo)).take (HT.sIx xs.length xs.length hi-HT.sIx xs.length 0 lo)
theorem zef(xs:List V)(lo hi:Option Int):(cutV xs lo hi).length<=xs.length:=by
  unfold cutV;rw[Zj,ZR];omega
def rSlT(K:Fg):V->Option Int->Option Int->Hp->VK->Prop:=fun x lo hi H Q=>∃a xs,x=.ref a/\SqT K H a xs /\
  ¬(HT.sIx xs.length 0 lo=0/\HT.sIx xs.length xs.length hi=xs.length)/\∀p,H p=none->Q (.ref p) (upd H p (.tup (cutV xs lo hi)))
def rCatT(K:Fg):R2:=fun x y H Q=>∃a b xs ys,x=.ref a/\y=.ref b/\SqT K H a xs/\SqT K H b ys/\xs≠[]/\xs.length+ys.length<=sizeLine /\
  (ys=[]->Q (.ref a) H)/\(ys≠[]->∀p,H p=none->Q (.ref p) (upd H p (.tup (xs++ys))))
theorem Vals.nil_iff{xs:List V}{us:List Value}(r:Vals xs us):us=[]↔xs=[]:=by
  cases r with
  | nil=>simp
  | cons _ _=>simp
theorem zla:OpR X (binaryOp .Add) (rCatT X.K):=by
  intro pins s σ H x y v u Q I rx ry h;obtain⟨a,b,xs,ys,rfl,rfl,ha,hb,hx,hz,q1,q2⟩:=h;cases rx;cases ry;obtain⟨its,r1,p1,_⟩:=I.tuple ha;obtain⟨its2,r2,p2,_⟩:=I.tuple hb;refine HT.cat_tup p1 p2 (fun z=>hx (r1.nil_iff.mp z)) (fun z=>⟨.ref a,H,I,rfl,q1 (r2.nil_iff.mp z)⟩) (fun z => ?_) (by rw[<-r1.length,<-r2.length];exact hz);refine⟨.ref s.heap.objs.size,_,I.laid (t':=s.toks) (o:=.tup (xs++ys)) (fun b ob q=>Heap.get?_push_of_some _ q) (Zm _) ?_,rfl,q2 (fun w=>z (r2.nil_iff.mpr w)) _ (I.hok.fresh (Zm _))⟩;exact⟨by rw[Zo];exact hz,_,r1.append r2,IsTupD.new _ _⟩
end
end L2
namespace L2
open PySem PySem.Spec PyProof.Rows
def ixN(n:Nat)(i:Int):Option Nat:=if 0<=i then(if i<n then some i.toNat else none) else if -(n:Int)<=i then some (i+n).toNat else none
def atI{α:Type}(xs:List α)(i:Int):Option α:=(ixN xs.length i).bind fun j=>xs[j]?
theorem ze3{n:Nat}{i:Int}{j:Nat}(h:ixN n i=some j):seqIndex? i n=some j/\j<n /\ -(n:Int)<=i/\i<n:=by
  unfold ixN at h
  by_cases h0:0<=i
  . rw[if_pos h0]at h
    by_cases h1:i<n
    . rw[if_pos h1]at h
      have e:i.toNat=j:=Option.some.inj h;exact⟨by rw[seqIndex_of h0 h1,e],by omega,by omega,h1⟩
    . rw[if_neg h1]at h;cases h
  . rw[if_neg h0]at h
    by_cases h1 : -(n:Int)<=i
    . rw[if_pos h1]at h
      have e:(i+n).toNat=j:=Option.some.inj h;exact⟨by rw[seqIndex_neg (by omega) h1,e],by omega,h1,by omega⟩
    . rw[if_neg h1]at h;cases h
theorem zai{α:Type}{xs:List α}{i:Int}{v:α}(h:atI xs i=some v):∃j,seqIndex? i xs.length=some j/\xs[j]? = some v/\j<xs.length /\ -(xs.length:Int)<=i/\i<xs.length:=by
  unfold atI at h
  cases e:ixN xs.length i with
  | none=>rw[e]at h;cases h
  | some j =>
    rw[e]at h;obtain⟨h1,h2,h3,h4⟩:=ze3 e;exact⟨j,h1,h,h2,h3,h4⟩
theorem zy{α:Type}{xs:List α}{j:Nat}{v:α}(h:xs[j]? = some v):atI xs (j:Int)=some v:=by
  have hj:j<xs.length:=(Zc.mp h).1
  have e:ixN xs.length (j:Int)=some j:=by
    unfold ixN;rw[if_pos (by omega),if_pos (by omega)];simp
  unfold atI;rw[e];exact h
def zlv(b:Expr):Prop:=∀o i,subscripted b false o i=operate [o,i] (getItem o i)
def IxR(X:Cx)(r:R2):Prop :=
  ∀(value slice:Expr) (pins:List (Addr×Obj)) (s:Shared) (σ:St) (H:Hp) (x y:V) (v u:Value) (Q:VK),Inv X pins σ H s->RelV x v->RelV y u->r x y H Q ->
    subscripted slice false v u=operate [v,u] (getItem v u)->wpAny (model X.prog X.w) X.A (subscriptTail value slice v u) (EP X pins σ Q) X.xe s
def MtR(X:Cx)(id:String)(r:V->List V->Hp->VK->Prop):Prop :=
  ∀(pins:List (Addr×Obj)) (s:Shared) (σ:St) (H:Hp) (x:V) (xs:List V) (v:Value) (us:List Value) (Q:VK),Inv X pins σ H s->RelV x v->Vals xs us->r x xs H Q ->
    wpAny (model X.prog X.w) X.A (call (.builtin id) (v::us)) (EP X pins σ Q) X.xe s
section
variable{X:Cx}{a b:Expr}{ta tb:TE}{pos:Pos}
theorem z0{r:R2}(hr:IxR X r)(ha:PE X a ta)(hb:PE X b tb)(hs:zlv b):PE X (.Subscript a b pos) (tOp r ta tb):=by
  intro pins s σ H Q I h;exact Subscript_ (binT ha hb I h fun v u s2 x y H2 I2 rx ry q=>hr a b pins s2 σ H2 x y v u Q I2 rx ry q (hs _ _))
def rIxL(K:Fg):R2:=fun x y H Q=>∃p xs i v,x=.ref p/\y=.int i/\SqL K H p xs/\atI xs i=some v/\Q v H
def rIxT(K:Fg):R2:=fun x y H Q=>∃p xs i v,x=.ref p/\y=.int i/\SqT K H p xs/\atI xs i=some v/\Q v H
def rIxS:R2:=fun x y H Q=>∃z i c,x=.str z/\y=.int i/\z.length<=sizeLine/\atI z.cps.toList i=some c/\Q (.str ⟨#[c]⟩) H
theorem ya:IxR X (rIxL X.K):=by
  intro value slice pins s σ H x y v u Q I rx ry h hs;obtain⟨p,xs,i,z,rfl,rfl,hq,he,q⟩:=h;cases rx;obtain⟨t,rfl⟩:=ry;obtain⟨its,r,pl,hz⟩:=I.list hq;obtain⟨j,h1,h2,h3,h4,h5⟩:=zai he;obtain⟨w,ew,rw'⟩:=r.get h2;have hl:=r.length;have hn:=mm;have fin:EP X pins σ Q w s:=⟨z,H,I,rw',q⟩
  by_cases h0:0<=i
  . have hj:i.toNat=j:=by
      rw[seqIndex_of h0 h5]at h1;exact Option.some.inj h1
    exact item_listR pl.isList h0 (by omega) (by rw[hj];simpa using ew) fin hs
  . have hj:(i+(its.toArray.size:Int)).toNat=j:=by
      rw[seqIndex_neg (by omega) h4]at h1;rw[Zr,<-hl];exact Option.some.inj h1
    exact subscriptTail_builtinR (x:=w) pl.isList.typeIs slot_list_getitem.lookup
      (wpAny_getItem_list_neg (Q:=fun r s'=>r=w/\EP X pins σ Q r s') pl.isList (by omega) (by rw[Zr] <;> omega) (by omega) (by rw[hj];simpa using ew) ⟨rfl,fin⟩) hs
theorem yq:IxR X (rIxT X.K):=by
  intro value slice pins s σ H x y v u Q I rx ry h hs;obtain⟨p,xs,i,z,rfl,rfl,hq,he,q⟩:=h;cases rx;obtain⟨t,rfl⟩:=ry;obtain⟨its,r,pl,hz⟩:=I.tuple hq;obtain⟨j,h1,h2,h3,h4,h5⟩:=zai he;obtain⟨w,ew,rw'⟩:=r.get h2;have hl:=r.length;have hn:=mm;have fin:EP X pins σ Q w s:=⟨z,H,I,rw',q⟩
  exact subscriptTail_builtinR (x:=w) pl.typeIs slot_tuple_getitem.lookup
    (getItem_tuple (j:=j) (Q:=fun r s'=>r=w/\EP X pins σ Q r s') pl (by omega) (by omega) (by rw[Zr,<-hl];exact h1) (by simpa using ew) ⟨rfl,fin⟩) hs
theorem zb7:IxR X rIxS:=by
  intro value slice pins s σ H x y v u Q I rx ry h hs;obtain⟨z,i,c,rfl,rfl,hz,he,q⟩:=h;obtain⟨t,rfl⟩:=rx;obtain⟨t',rfl⟩:=ry;obtain⟨j,h1,h2,h3,h4,h5⟩:=zai he;have hl:z.cps.toList.length=z.length:=by simp[Str.length]
  rw[hl]at h1 h4 h5;have hn:=mm
  exact tail_any (typeIs_str s z t) slot_str_getitem.lookup (getItem_str (c:=c) (by
    have e1:decide (i < -(2^63:Int))=false:=decide_eq_false (by omega);have e2:decide (i ≥ 2^63)=false:=decide_eq_false (by omega)
    rw[e1,e2,Bool.or_false]) (by rw[h1];simpa using h2) ⟨.str ⟨#[c]⟩,H,I.tok _,⟨_,rfl⟩,q⟩) hs
theorem zgw(its:List Value)(n j:Nat)(u:Value):Obj.mapSeq (·.setIfInBounds j u) { cls:=.type "list", data:=.seq its.toArray n }={ cls:=.type "list", data:=.seq (its.set j u).toArray n }:=by
  simp[Obj.mapSeq]
theorem Inv.lst{pins:List (Addr×Obj)}{σ:St}{H:Hp}{s:Shared}{p:Addr}{xs:List V}(I:Inv X pins σ H s)(h:H p=some (.lst xs)) :
    ∃(its:List Value) (n:Nat),Vals xs its/\s.heap.get? p=some { cls:=.type "list", data:=.seq its.toArray n }/\xs.length<=sizeLine:=by
  obtain⟨z,its,n,r,e⟩:=I.hok p _ h;exact⟨its,n,r,e,z⟩
theorem Inv.lstUpd{pins:List (Addr×Obj)}{σ:St}{H:Hp}{s:Shared}{p:Addr}{xs ys:List V}{its its':List Value}{n n':Nat}{f:Obj->Obj}(I:Inv X pins σ H s)(h:H p=some (.lst xs))
    (ho:s.heap.get? p=some { cls:=.type "list", data:=.seq its.toArray n }) (hf:f { cls:=.type "list", data:=.seq its.toArray n }={ cls:=.type "list", data:=.seq its'.toArray n' }) (r:Vals ys its') (hz:ys.length<=sizeLine) (t:Nat) :
    Inv X pins σ (upd H p (.lst ys)) { s with heap:=s.heap.update p f,toks:=t }:=by
  have e:(s.heap.update p f).get? p=some { cls:=.type "list", data:=.seq its'.toArray n' }:=by
    rw[Heap.get?_update_self f ho (by rw[hf] <;> rfl),hf]
  refine I.write (x:=p) (e:=p) (by rw[h];trivial) (.inl rfl) (fun b u hb q=>(Heap.get?_update_other _ _ (Ne.symm hb)).trans q) ⟨_,e⟩ ?_;exact⟨hz,its',n',r,e⟩
def rSetL:V->V->V->Hp->(Hp->Prop)->Prop:=fun o i v H Q=>∃p xs k j,o=.ref p/\i=.int k/\H p=some (.lst xs)/\ixN xs.length k=some j/\Q (upd H p (.lst (xs.set j v)))
theorem zki:PSet X rSetL:=by
  intro pins s σ H o i v ov iv u Q I ro ri rv h;obtain⟨p,xs,k,j,rfl,rfl,hp,hj,q⟩:=h;cases ro;obtain⟨t,rfl⟩:=ri;obtain⟨its,n,r,ho,hz⟩:=I.lst hp;obtain⟨h1,h2,h3,h4⟩:=ze3 hj;have hl:=r.length;have hn:=mm
  have I':Inv X pins σ (upd H p (.lst (xs.set j v))) { s with heap:=s.heap.update p (Obj.mapSeq (·.setIfInBounds j u)) } :=
    I.lstUpd hp ho (zgw its n j u) (r.set rv j) (by rw[List.length_set];exact hz) s.toks
  by_cases h0:0<=k
  . have hk:k.toNat=j:=by
      rw[seqIndex_of h0 h4]at h1;exact Option.some.inj h1
    exact PySem.W.ki_setAt ho h0 (by omega) (by rw[Zr,<-hl];exact h4) (by rw[hk];exact⟨_,I',q⟩)
  . have hk:(k+(its.toArray.size:Int)).toNat=j:=by
      rw[seqIndex_neg (by omega) h3]at h1;rw[Zr,<-hl];exact Option.some.inj h1
    exact PySem.W.ki_setBack ho (by omega) (by rw[Zr,<-hl];exact h3) (by omega) (by rw[hk];exact⟨_,I',q⟩)
theorem zca(lo hi:Option Int)(n:Nat):(sliceBounds lo hi none n).1=((HT.sIx n 0 lo:Nat):Int)/\(sliceBounds lo hi none n).2.1=((HT.sIx n n hi:Nat):Int)/\(sliceBounds lo hi none n).2.2=1:=by
  refine⟨?_,?_,rfl⟩
  . cases lo with
    | none=>simp[sliceBounds,HT.sIx]
    | some i =>
      simp only[sliceBounds,HT.sIx,Option.getD_none,show(1:Int) > 0 by decide,if_true]
      by_cases h:i<0
      . simp only[h,if_true] <;> omega
      . simp only[h,if_false] <;> omega
  . cases hi with
    | none=>simp[sliceBounds,HT.sIx]
    | some i =>
      simp only[sliceBounds,HT.sIx,Option.getD_none,show(1:Int) > 0 by decide,if_true]
      by_cases h:i<0
      . simp only[h,if_true] <;> omega
      . simp only[h,if_false] <;> omega
theorem zbz(its:List Value)(lo hi:Option Int):slicePick its.toArray lo hi none=((its.drop (HT.sIx its.length 0 lo)).take (HT.sIx its.length its.length hi-HT.sIx its.length 0 lo)).toArray:=by
  obtain⟨h1,h2,h3⟩:=zca lo hi its.toArray.size;unfold slicePick;rw[h1,h2,h3];simp only[sliceRange_one,pick_run,Zr] <;> rfl
def rSlL(K:Fg):V->Option Int->Option Int->Hp->VK->Prop:=fun x lo hi H Q=>∃a xs,x=.ref a/\SqL K H a xs/\∀p,H p=none->Q (.ref p) (upd H p (.lst (cutV xs lo hi)))
theorem fj:SlR X (rSlL X.K):=by
  intro pins s σ H x v vl vu lo hi sl Q I rx hs pl pu h;obtain⟨a,xs,rfl,hx,q⟩:=h;cases rx;obtain⟨its,r,ht,hz⟩:=I.list hx;have hlen:=r.length;refine⟨"list", _,slot_list_getitem.lookup,ht.isList.typeIs,?_⟩;refine wpAny_getItem_list_slice ht.isList hs pl pu .none (by simp) ?_ (by rw[Zr] <;> omega);rw[zbz,<-hlen];refine⟨.ref s.heap.objs.size,_,I.laid (t':=s.toks) (o:=.lst (cutV xs lo hi)) (fun b ob q=>Heap.get?_push_of_some _ q) (Zm _) ?_,rfl,q _ (I.hok.fresh (Zm _))⟩;exact⟨Zd (zef xs lo hi) hz,_,0,(r.drop (HT.sIx xs.length 0 lo)).take (HT.sIx xs.length xs.length hi-HT.sIx xs.length 0 lo),Heap.get?_push_size _ rfl⟩
def xk:V->Bool
  | .non=>true
  | .bl _=>true
  | .int _=>true
  | .str _=>true
  | _=>false
def eqV:V->V->Bool
  | .non,.non=>true
  | .bl a,.bl b=>a==b
  | .bl a,.int b=>(if a then 1 else 0)==b
  | .int a,.bl b=>a==(if b then 1 else 0)
  | .int a,.int b=>a==b
  | .str a,.str b=>a==b
  | _,_=>false
theorem zg0{A:Around}{s:Shared}{y x:V}{u v:Value}(ry:RelV y u)(rx:RelV x v)(fy:xk y=true)(fx:xk x=true):SeqAt.EqAt A s u v (eqV y x):=by
  cases y with
  | non =>
    cases ry
    cases x with
    | non=>cases rx;exact SeqAt.EqAt.same _
    | bl b=>cases rx;exact SeqAt.EqAt.none_bool b
    | int b=>obtain⟨t,rfl⟩:=rx;exact SeqAt.EqAt.none_int b t
    | str b=>obtain⟨t,rfl⟩:=rx;exact SeqAt.EqAt.none_str b t
    | _=>exact absurd (show false=true from fx) Bool.false_ne_true
  | bl a =>
    cases ry
    cases x with
    | non=>cases rx;exact SeqAt.EqAt.bool_none a
    | bl b=>cases rx;exact SeqAt.EqAt.bool_bool a b
    | int b=>obtain⟨t,rfl⟩:=rx;exact SeqAt.EqAt.bool_int a b t
    | str b=>obtain⟨t,rfl⟩:=rx;exact SeqAt.EqAt.bool_str a b t
    | _=>exact absurd (show false=true from fx) Bool.false_ne_true
  | int a =>
    obtain⟨t',rfl⟩:=ry
    cases x with
    | non=>cases rx;exact SeqAt.EqAt.int_none a t'
    | bl b=>cases rx;exact SeqAt.EqAt.int_bool a t' b
    | int b=>obtain⟨t,rfl⟩:=rx;exact SeqAt.EqAt.int_int a t' b t
    | str b=>obtain⟨t,rfl⟩:=rx;exact SeqAt.EqAt.int_str a t' b t
    | _=>exact absurd (show false=true from fx) Bool.false_ne_true
  | str a =>
    obtain⟨t',rfl⟩:=ry
    cases x with
    | non=>cases rx;exact SeqAt.EqAt.str_none a t'
    | bl b=>cases rx;exact SeqAt.EqAt.str_bool a t' b
    | int b=>obtain⟨t,rfl⟩:=rx;exact SeqAt.EqAt.str_int a t' b t
    | str b=>obtain⟨t,rfl⟩:=rx;exact SeqAt.EqAt.str_str a t' b t
    | _=>exact absurd (show false=true from fx) Bool.false_ne_true
  | _=>exact absurd (show false=true from fy) Bool.false_ne_true
def eqU(x:V)(u:Value):Bool:=match u with
  | .none=>eqV .non x
  | .bool b=>eqV (.bl b) x
  | .int i _=>eqV (.int i) x
  | .str z _=>eqV (.str z) x
  | _=>false
theorem c8{x y:V}{u:Value}(r:RelV y u)(f:xk y=true):eqU x u=eqV y x:=by
  cases y with
  | non=>cases r;rfl
  | bl b=>cases r;rfl
  | int i=>obtain⟨t,rfl⟩:=r;rfl
  | str z=>obtain⟨t,rfl⟩:=r;rfl
  | _=>exact absurd (show false=true from f) Bool.false_ne_true
theorem zac{x:V}:∀{xs:List V} {us:List Value},Vals xs us->xs.all xk=true->us.any (eqU x)=xs.any fun y=>eqV y x
  | _,_,.nil,_=>rfl
  | y::xs,u::us,.cons r t,f=>by
    rw[YT,Bool.and_eq_true]at f;rw[List.any_cons,List.any_cons,c8 r f.1,zac t f.2]
theorem qw{A:Around}{s:Shared}{x:V}{v:Value}(rx:RelV x v)(fx:xk x=true):∀{xs:List V} {us:List Value},Vals xs us->xs.all xk=true->∀u∈us,SeqAt.EqAt A s u v (eqU x u)
  | _,_,.nil,_=>fun u hu=>by cases hu
  | y::xs,u::us,.cons r t,f=>fun u' hu=>by
    rw[YT,Bool.and_eq_true]at f
    rcases ZK.mp hu with rfl | hu
    . rw[c8 r f.1];exact zg0 r rx f.1 fx
    . exact qw rx fx t f.2 u' hu
def inV(x:V)(xs:List V):Bool:=xs.any fun y=>eqV y x
def rIn(K:Fg)(neg:Bool):R2:=fun x y H Q=>∃p xs,y=.ref p/\(SqL K H p xs\/SqT K H p xs)/\xk x=true/\xs.all xk=true/\Q (.bl (if neg then !inV x xs else inV x xs)) H
theorem zc2:OpR X (compareOp .NotIn) (rIn X.K true):=by
  intro pins s σ H x y v u Q I rx ry h;obtain⟨p,xs,rfl,hq,fx,fs,q⟩:=h;cases ry
  rcases hq with hq | hq
  . obtain⟨its,r,pl,hz⟩:=I.list hq
    refine SeqAt.notIn_listAt (eqU x) pl.isList (fun w hw=>qw rx fx r fs w (by simpa using hw)) ⟨.bl _,H,I,rfl,?_⟩;rw[show its.toArray.any (eqU x)=its.any (eqU x) by simp,zac r fs];exact q
  . obtain⟨its,r,pl,hz⟩:=I.tuple hq
    refine SeqAt.notIn_tupleAt (eqU x) pl (fun w hw=>qw rx fx r fs w (by simpa using hw)) ⟨.bl _,H,I,rfl,?_⟩;rw[show its.toArray.any (eqU x)=its.any (eqU x) by simp,zac r fs];exact q
theorem yf:w9 X (.builtin "len") (fun xs H Q=>∃p ys,xs=[.ref p]/\(SqL X.K H p ys\/SqT X.K H p ys)/\Q (.int ys.length) H):=by
  intro pins s σ H xs us Q I r h;obtain⟨p,ys,rfl,hq,q⟩:=h;obtain⟨u,rfl,rx⟩:=qt r;cases rx;have hn:=mm
  rcases hq with hq | hq
  . obtain⟨its,r',pl,hz⟩:=I.list hq
    have hlen:=r'.length;exact Calls.call_len_list pl.isList (by simp only[Zr] <;> omega) ⟨.int ys.length,H,I.tok _,⟨s.toks+1,by rw[Zr,hlen]⟩,q⟩
  . obtain⟨its,r',pl,hz⟩:=I.tuple hq
    have hlen:=r'.length;exact len_tuple pl (by simp only[Zr] <;> omega) ⟨.int ys.length,H,I.tok _,⟨s.toks+1,by rw[Zr,hlen]⟩,q⟩
theorem gb:w9 X (.builtin "len") (fun xs H Q=>∃z,xs=[.str z]/\z.length<=sizeLine/\Q (.int z.length) H):=by
  intro pins s σ H xs us Q I r h;obtain⟨z,rfl,hz,q⟩:=h;obtain⟨u,rfl,t,rfl⟩:=qt r;have hn:=mm;exact len_str (by omega) ⟨.int z.length,H,I.tok _,⟨_,rfl⟩,q⟩
theorem io:w9 X (.type "list") (fun xs H Q=>∃p ys,xs=[.ref p]/\(SqL X.K H p ys\/SqT X.K H p ys)/\∀l,H l=none->Q (.ref l) (upd H l (.lst ys))):=by
  intro pins s σ H xs us Q I r h;obtain⟨p,ys,rfl,hq,q⟩:=h;obtain⟨u,rfl,rx⟩:=qt r;cases rx
  have fin:∀(its:List Value),Vals ys its->ys.length<=sizeLine->∀(h':Heap) (c':Nat),(∀b o',s.heap.get? b=some o'->h'.get? b=some o') ->
      h'.get? s.heap.objs.size=some { cls:=.type "list", dict:=none,data:=.seq its.toArray c',slots := #[] }->EP X pins σ Q (.ref s.heap.objs.size) { s with heap:=h' }:=fun its r' hz h' c' kp e =>
    ⟨.ref s.heap.objs.size,_,I.laid (t':=s.toks) kp (Zm _) (show ObjOk X.prog X.w _ h' _ (.lst ys) from⟨hz,its,c',r',e⟩),rfl,q _ (I.hok.fresh (Zm _))⟩
  rcases hq with hq | hq
  . obtain⟨its,r',pl,hz⟩:=I.list hq
    have hlen:=r'.length;obtain⟨o,ho,hc,n,hd⟩:=pl.isList;exact call_list_seq p (.inl rfl) ho hc hd (fun h' c' kp e=>fin its r' hz h' c' kp e) (by simp only[Zr] <;> omega)
  . obtain⟨its,r',pl,hz⟩:=I.tuple hq
    have hlen:=r'.length;obtain⟨o,ho,hc,n,hd⟩:=pl;exact call_list_seq p (.inr rfl) ho hc hd (fun h' c' kp e=>fin its r' hz h' c' kp e) (by simp only[Zr] <;> omega)
theorem zbs:w9 X (.type "tuple") (fun xs H Q=>∃p ys,xs=[.ref p]/\((SqL X.K H p ys/\∀l,H l=none->Q (.ref l) (upd H l (.tup ys)))\/(SqT X.K H p ys/\Q (.ref p) H))):=by
  intro pins s σ H xs us Q I r h;obtain⟨p,ys,rfl,h⟩:=h;obtain⟨u,rfl,rx⟩:=qt r;cases rx
  rcases h with ⟨hq,q⟩ | ⟨hq,q⟩
  . obtain⟨its,r',pl,hz⟩:=I.list hq
    have hlen:=r'.length;refine call_tuple_list pl.isList (fun h' kp => ?_) (by simp only[Zr] <;> omega);have I1:Inv X pins σ H { s with heap:=h' }:=I.kept (t':=s.toks) kp
    have I2:Inv X pins σ (upd H h'.objs.size (.tup ys)) { s with heap:=h'.push { cls:=.type "tuple", data:=.seq its.toArray } } :=
      I1.laid (t':=s.toks) (fun b o e=>Heap.get?_push_of_some _ e) (Zm _) (show ObjOk X.prog X.w _ _ _ (.tup ys) from⟨hz,its,r',IsTupD.new _ _⟩)
    exact⟨.ref h'.objs.size,_,I2,rfl,q _ (I1.hok.fresh (Zm _))⟩
  . obtain⟨its,r',pl,hz⟩:=I.tuple hq
    exact call_tuple_same pl ⟨.ref p,H,I,rfl,q⟩
def tyV(K:Fg)(T:String)(x:V)(H:Hp):Prop:=match x with
  | .str _=>T = "str"
  | .int _=>T = "int"
  | .ref p=>(T = "list" /\ ∃xs,SqL K H p xs)\/(T = "tuple" /\ ∃o,K.lookup p=some o/\o.cls=.type "tuple" /\ o.dict=none) \/
      (T = "dict" /\ ((∃kvs,H p=some (.dK kvs))\/∃kvs,H p=some (.dT kvs)))\/(T = "set" /\ ∃S n,H p=some (.set S n))
  | _=>False
theorem tyV_is{pins:List (Addr×Obj)}{σ:St}{H:Hp}{s:Shared}{T:String}{x:V}{v:Value}(I:Inv X pins σ H s)(r:RelV x v)(ty:tyV X.K T x H) :
    s.TypeIs v T/\∀a,v=.ref a->∃ob,s.heap.get? a=some ob/\ob.dict=none:=by
  cases x with
  | str z =>
    obtain⟨t,rfl⟩:=r;cases (show T = "str" from ty);exact⟨typeIs_str s z t,fun _ e=>nomatch e⟩
  | int i =>
    obtain⟨t,rfl⟩:=r;cases (show T = "int" from ty);exact⟨typeIs_int s i t,fun _ e=>nomatch e⟩
  | ref p =>
    cases r
    rcases ty with ⟨rfl,xs,hq⟩ | ⟨rfl,o,hk,hc,hd⟩ | ⟨rfl,hk⟩ | ⟨rfl,S,n,hk⟩
    . obtain⟨its,_,pl,_⟩:=I.list hq
      refine⟨pl.isList.typeIs,fun a e => ?_⟩;cases e;obtain⟨o,n,e,c,hd,_⟩:=pl;exact⟨o,e,hd⟩
    . refine⟨⟨o,I.kIn p o hk,hc⟩,fun a e => ?_⟩
      cases e;exact⟨o,I.kIn _ o hk,hd⟩
    . have z:∃o,s.heap.get? p=some o/\o.ExactDict:=by
        rcases hk with ⟨kvs,hk⟩ | ⟨kvs,hk⟩
        . obtain⟨_,_,_,_,o,_,_,e,ex,_⟩:=I.hok p _ hk
          exact⟨o,e,ex⟩
        . obtain⟨_,_,_,_,o,_,_,e,ex,_⟩:=I.hok p _ hk
          exact⟨o,e,ex⟩
      obtain⟨o,e,ex⟩:=z;refine⟨⟨o,e,ex.1⟩,fun a e2 => ?_⟩;cases e2;exact⟨o,e,ex.2.1⟩
    . obtain⟨o,_,_,_,e,ex,_⟩:=I.hok p _ hk
      refine⟨⟨o,e,ex.1⟩,fun a e2 => ?_⟩;cases e2;exact⟨o,e,ex.2.1⟩
  | _=>exact False.elim ty
def tBM0(K:Fg)(T:String)(r:V->List V->Hp->VK->Prop)(to:TE):TE:=fun σ H Q=>to σ H fun x H1=>tyV K T x H1/\r x [] H1 Q
def tBM(K:Fg)(T:String)(r:V->List V->Hp->VK->Prop)(to:TE)(t:TA):TE:=fun σ H Q=>to σ H fun x H1=>tyV K T x H1/\t σ H1 fun xs H2=>r x xs H2 Q
variable{o e:Expr}{es:List Expr}{to:TE}{t:TA}{name:Str}{apos cpos:Pos}{T id:String}{r:V->List V->Hp->VK->Prop}
theorem y8 (pa:PlainAttrs T) (slot:Slot T name id) (hty:typeOf (.builtin id)=pure (.type "method_descriptor")) (hm:MtR X id r) (ho:PE X o to) (ha:PA X (e::es) t)
    (hbase:attributeBase o name X.env (eval o X.env)=eval o X.env:=by rfl)
    (hfew:((backTo cpos (starEach (e::es) X.env)).all (fun x => !x.1)&&(backToKw cpos (keywordEach [] X.env)).all (fun x=>x.1.isSome)
      && decide ((e::es).length+([]:List Keyword).length+(if ([]:List Keyword).isEmpty then 0 else 1)<30))=true:=by rfl)
    (hline:(apos.endLine==cpos.line)=true:=by rfl) (hs:starEach (e::es) X.env=(false,eval e X.env)::starEach es X.env:=by rfl) (hplain:(backTo cpos (starEach es X.env)).any (·.1)=false:=by rfl) :
    PE X (.Call (.Attribute o name apos) (e::es) [] cpos) (tBM X.K T r to t):=by
  intro pins s σ H Q I h;refine wpAny_Call_method_late hbase hfew hline rfl (thn (ho pins s σ H _ I h) fun v s1 ⟨x,H1,I1,r1,ty,q1⟩ => ?_);obtain⟨h1,h2⟩:=tyV_is I1 r1 ty;refine⟨T,id,pa,slot,hty,h1,h2,?_⟩;have hA:=ha cpos pins s1 σ H1 _ I1 q1;rw[hs]at hA ⊢;refine Calls.callWith_builtin (by show(false||(backTo cpos (starEach es X.env)).any (·.1))=false;rw[hplain] <;> rfl) (Calls.evalArgs_plain ?_);exact thn hA fun us s2 ⟨vs,H2,I2,r2,q2⟩=>hm pins s2 σ H2 x vs v us Q I2 r1 r2 q2
end
end L2
namespace L2
open PySem PySem.Spec PyProof.Rows
def MtM(X:Cx)(id:String)(r:V->List V->Hp->VK->Prop):Prop :=
  ∀(pins:List (Addr×Obj)) (s:Shared) (σ:St) (H:Hp) (x:V) (xs:List V) (v:Value) (us:List Value) (Q:VK),Inv X pins σ H s->RelV x v->Vals xs us->r x xs H Q ->
    wpAny (model X.prog X.w) X.A (call (.builtin id) (v::us)) (EP X pins σ Q) X.xe s
theorem Vals.one:∀{x:V} {us:List Value},Vals [x] us->∃u,us=[u]/\RelV x u
  | _,_,.cons r .nil=>⟨_,rfl,r⟩
theorem Vals.two:∀{x y:V} {us:List Value},Vals [x,y] us->∃u v,us=[u,v]/\RelV x u/\RelV y v
  | _,_,_,.cons r (.cons q .nil)=>⟨_,_,rfl,r,q⟩
section
variable{X:Cx}{pins:List (Addr×Obj)}{σ:St}{H:Hp}{s:Shared}{l b:Addr}{xs ys zs:List V}
theorem Inv.lset{its its':List Value}{n:Nat}{f:Array Value->Array Value}{t':Nat}(I:Inv X pins σ H s)(hH:H l=some (.lst xs))
    (e:s.heap.get? l=some { cls:=.type "list", data:=.seq its.toArray n }) (hf:f its.toArray=its'.toArray) (hv:Vals ys its') (hz:ys.length<=sizeLine) :
    Inv X pins σ (upd H l (.lst ys)) { s with heap:=s.heap.update l (Obj.mapSeq f),toks:=t' }:=by
  have q:=PySem.IsL.update e f;rw[hf]at q;refine I.write (x:=l) (e:=l) (by rw[hH];exact trivial) (.inl rfl) (fun b' u hb hu=>(Heap.get?_update_other s.heap (Obj.mapSeq f) (Ne.symm hb)).trans hu) ⟨_,q⟩ ?_;exact⟨hz,its',_,hv,q⟩
theorem Inv.lnew{its:List Value}{t':Nat}(I:Inv X pins σ H s)(hv:Vals ys its)(hz:ys.length<=sizeLine) :
    Inv X pins σ (upd H s.heap.objs.size (.lst ys)) { s with heap:=s.heap.push { cls:=.type "list", data:=.seq its.toArray },toks:=t' } :=
  I.laid (fun _ _ q=>Heap.get?_push_of_some _ q) (Zm _) ⟨hz,its,0,hv,Heap.get?_push_size _ rfl⟩
theorem Inv.fresh(I:Inv X pins σ H s):H s.heap.objs.size=none:=I.hok.fresh (Zm _)
theorem Inv.lstM(I:Inv X pins σ H s)(hH:H l=some (.lst xs)):xs.length<=sizeLine/\∃(its:List Value) (n:Nat),Vals xs its/\xs.length=its.length/\s.heap.get? l=some { cls:=.type "list", data:=.seq its.toArray n }:=by
  obtain⟨z,its,n,r,e⟩:=I.hok l _ hH;exact⟨z,its,n,r,r.length,e⟩
theorem zji{n:Nat}(h:n<=sizeLine):Builtin.List.listTooLong n=false:=by
  unfold Builtin.List.listTooLong;exact decide_eq_false (by omega)
end
section
variable{X:Cx}
def zfk:V->List V->Hp->VK->Prop:=fun x vs H Q=>∃l xs y,x=.ref l/\vs=[y]/\H l=some (.lst xs)/\xs.length<sizeLine/\Q .non (upd H l (.lst (xs++[y])))
theorem ow:MtM X "list.append" zfk:=by
  intro pins s σ H x vs v us Q I rx rv h;obtain⟨l,xs,y,rfl,rfl,hH,hz,q⟩:=h;cases rx;obtain⟨u,rfl,ru⟩:=rv.one;obtain⟨z,its,n,r,hl,e⟩:=I.lstM hH;refine call_meets F.slot_list_append ⟨_,e,rfl⟩ F.entry_list_append (F.args_list_append_2 _ _) (PySem.list_append l its.toArray n u (by rw[Zr];omega)) ⟨e,?_⟩;refine⟨.non,_,I.lset (its':=its++[u]) hH e (by simp) (r.append (.cons ru .nil)) ?_,rfl,q⟩;rw[Zo,Yd];omega
def ze1:V->List V->Hp->VK->Prop:=fun x vs H Q=>∃l b xs zs,x=.ref l/\vs=[.ref b]/\H l=some (.lst xs)/\H b=some (.lst zs)/\xs.length+zs.length<=sizeLine/\Q .non (upd H l (.lst (xs++zs)))
theorem ziu:MtM X "list.extend" ze1:=by
  intro pins s σ H x vs v us Q I rx rv h;obtain⟨l,b,xs,zs,rfl,rfl,hH,hB,hz,q⟩:=h;cases rx;obtain⟨u,rfl,ru⟩:=rv.one;cases ru;obtain⟨z,its,n,r,hl,e⟩:=I.lstM hH;obtain⟨z2,its2,n2,r2,hl2,e2⟩:=I.lstM hB;have hsz:its.toArray.size+its2.toArray.size<=sizeLine:=by rw[Zr,Zr];omega
  have hlong:¬(!its.toArray.isEmpty&&Builtin.List.listTooLong (its.toArray.size+its2.toArray.size))=true:=by
    rw[zji hsz,Bool.and_false];exact Bool.false_ne_true
  refine call_meets F.slot_list_extend ⟨_,e,rfl⟩ F.entry_list_extend (F.args_list_extend_2 _ _)
    (AutoSeq1.list_extend_list_list_0 l its.toArray n b its2.toArray n2 hlong (by rw[Zr];omega) (by omega)) ⟨e,e2,?_⟩
  refine⟨.non,_,I.lset (its':=its++its2) hH e (by simp) (r.append r2) ?_,rfl,q⟩;rw[Zo];omega
def rCat:R2:=fun x y H Q=>∃l b xs zs,x=.ref l/\y=.ref b/\H l=some (.lst xs)/\H b=some (.lst zs)/\xs.length+zs.length<=sizeLine/\∀p,H p=none->Q (.ref p) (upd H p (.lst (xs++zs)))
theorem zcp:OpR X (binaryOp .Add) rCat:=by
  intro pins s σ H x y v u Q I rx ry h;obtain⟨l,b,xs,zs,rfl,rfl,hH,hB,hz,q⟩:=h;cases rx;cases ry;obtain⟨z,its,n,r,hl,e⟩:=I.lstM hH;obtain⟨z2,its2,n2,r2,hl2,e2⟩:=I.lstM hB;refine PySem.P.add_list e e2 ?_ (by rw[Zr,Zr];omega);have ea:its.toArray++its2.toArray=(its++its2).toArray:=by simp
  rw[ea];exact⟨.ref _,_,I.lnew (t':=s.toks) (r.append r2) (by rw[Zo];omega),rfl,q _ I.fresh⟩
def rRep:R2:=fun x y H Q=>∃l k xs,x=.ref l/\y=.int k/\H l=some (.lst xs) /\ -(2^63)<=k/\k<2^63/\xs.length*k.toNat<=sizeLine /\
  ∀p,H p=none->Q (.ref p) (upd H p (.lst (List.replicate k.toNat xs).flatten))
end
section
variable{prog:Program}{w:World}{A:Around}{E:Value->Shared->Prop}{s:Shared}
set_option maxRecDepth 100000 in
end
section
variable{X:Cx}
end
end L2
namespace Att
open PySem PySem.W PySem.Calls PyProof.Rows
theorem bq{P:Params}{h:Heap}:∀(ns:List Int) (vs:List Value),WellAll P h vs (ns.map WData.int)->IntsAre vs ns:=by
  intro ns
  induction ns with
  | nil =>
    intro vs w;rw[Yi]at w;cases w;exact .nil
  | cons n ns ih =>
    intro vs w;rw[ZM]at w
    cases w with
    | cons a b =>
      cases a;exact .cons _ _ (ih _ b)
theorem zi1{l:OpenLaw}{n:Nat}(hn:l.most=some n){P:Params}{h:Heap}{args:List WData}{vals:List Value}
    (hpre:l.row.toRowW.claim.pre args=true) (hwl:WellAll P h vals args) :
    ∃a vs ns,vals=[Value.ref a]/\args=[WData.list (ns.map WData.int)]/\h.get? a=some { cls:=.type "list", data:=.seq vs.toArray }/\IntsAre vs ns/\ns.length<=n:=by
  have hsh:WShape.hasAll [] args [.list .int]=true:=(pre_splitW hpre).1;have hc:l.pre.holds [] { args:=args }=true:=(pre_splitW hpre).2;obtain⟨d,r,rfl,h1,h2⟩:=hasAllW_cons hsh;obtain rfl:=hasAllW_nil h2;obtain⟨xs,rfl,h3⟩:=hasW_list h1;obtain⟨ns,rfl⟩:=items_int h3
  have hlen:ns.length<=n:=by
    unfold OpenLaw.pre at hc
    have h4:(WTm.not (.lt (.lit (.int (n:Int))) (.len (.arg 0)))).holds [] { args:=[.list (ns.map .int)] }=true:=by
      have h4:=(holds_andW hc).1;rw[hn]at h4;exact h4
    have h5:=condW_of h4 (w_not (w_lt w_lit (w_len_list (w_arg rfl))));rw[Za]at h5;refine Nat.le_of_not_lt fun q => ?_
    have q':(n:Int)<((ns.length:Nat):Int):=by omega
    first
      | (rw[decide_eq_true q']at h5;exact absurd h5 (by decide))
      | (simp at h5;omega)
  cases hwl with
  | cons w1 w2 =>
    cases w2
    cases w1 with
    | list ho hall=>exact⟨_,_,ns,rfl,rfl,ho,bq ns _ hall,hlen⟩
theorem zja(l:OpenLaw)(args:List WData):l.row.toRowW.claim.post args (.bool true) args=true :=
  postW_of (r:=l.row.toRowW) (X:=(true==true))
    (show WShape.has [] (.bool true) .bool=true by first | rfl | decide | simp[WShape.has,WShape.arms,WShape.armsAll])
    (show(WTm.eq .res (.lit (.bool true))).value [] { args:=args,res:=some (.bool true),after:=args }=some (.bool (true==true)) from w_eq_bool (w_res rfl) w_lit) rfl
theorem zd4{l:OpenLaw}{n:Nat}{q:Program}{loose:List Str}{XP:(Str->Option Value)->Heap->Prop}{YP:World->Heap->Prop}{d:DefRec}
    (hn:l.most=some n) (hdf:d.params.defaults=[])
    (call:∀(w:World) (s₀ s₁:Shared) (mg mb:Str->Option Value) (fa:Addr) (o:Obj) (pm cd doc:Value) (a:Addr) (vs:List Value) (ns:List Int),
      Ground q loose [] XP w s₀ mg mb s₁.heap->YP w s₁.heap ->
      s₁.heap.get? fa=some o->o.data=.func (docDef d.name d.params d.body d.scope pm cd doc)->s₁.heap.CodeRec cd d.name->mg d.name=some (.ref fa) ->
      s₁.heap.get? a=some { cls:=.type "list", data:=.seq vs.toArray }->IntsAre vs ns->ns.length<=n->s₁.gens = #[] ->
      codeAny (model l.prog w) callerA (.call (.ref fa) ⟨[.ref a],[]⟩) (fun r s'=>r=.ok (.ret (.bool true))/\OldK s₁.heap s'.heap/\s'.os=s₁.os/\AllBare s'.gens) s₁) :
    WalkO q loose XP YP l.row.toRowW d [] (fun f vs=>PySem.call f vs):=by
  intro w s₀ s₁ mg mb G Y fa o pm cd doc dV kV ho hd hcd hD hmg hg args vals as hpre hlay hrd hwl hlo;obtain rfl:dV=.none:=Dflts.none hD hdf;obtain rfl:kV=.none:=Dflts.noKw hD;obtain⟨a,vs,ns,rfl,rfl,hobj,hints,hlen⟩:=zi1 hn hpre hwl;refine enter_call (codeAny_mono (call w s₀ s₁ mg mb fa o pm cd doc a vs ns G Y ho (fd_plain hd) hcd hmg hobj hints hlen hg) fun r s' hq => ?_);obtain⟨rfl,h2,h3,h4⟩:=hq;exact⟨.inl ⟨.bool true,.bool true,[],rfl,fun _=>rfl,.bool true,zja l _,fun _=>⟨List.Pairwise.nil,fun _ hm=>(nomatch hm)⟩⟩,h2,h3,h4⟩
section
variable{prog:Program}{w:World}{A:Around}{E:Value->Shared->Prop}{s:Shared}{K:Frag}
end
end Att
namespace L2
open PySem PySem.Spec PyProof.Rows
theorem zap:∀{vs:List Value} {ns:List Int},IntsAre vs ns->Vals (ns.map V.int) vs
  | _,_,.nil=>.nil
  | _,_,.cons n t h=>.cons ⟨t,rfl⟩ (zap h)
def Only(H:Hp):Prop:=∀b,H b=none\/∃o xs,H b=some (.frz o (.lst xs))
theorem zjd{P:Program}{w:World}{K:Fg}{mg mb:Str->Option Value}{CX:CXT}{k:Nat}{fa a:Addr}{fd:FuncData}{x:Str}{sp:Sp}{s₁:Shared}{vs:List Value}{ns:List Int}
    (KX:K.In s₁.heap) (hns:s₁.heap.Ns mainGlobals mg) (hb:s₁.heap.Ns builtinsNs mb) (hbb:∀x:Str,x ≠ "__name__" -> mb x=bootBuiltins x) (hlim:s₁.heap.NoLimit) (hg:s₁.gens = #[])
    (ha:s₁.heap.get? a=some { cls:=.type "list", data:=.seq vs.toArray }) (hi:IntsAre vs ns) (hl:ns.length<=sizeLine) (hr:Room k callerA)
    (F:∀base:Heap,K.In base->base.Ns mainGlobals mg->FnOk P w K mg base CX k fa fd [x] sp) (hbind:∀(s:Shared) (u:Value),BindsTo s fd ⟨[u],[]⟩ [(x,u)])
    (hsp:∀H:Hp,Only H->SqL K H a (ns.map V.int)->sp [.ref a] H (fun v _=>v=.bl true) fun _ _ _=>False)
    (hCX:∀H e s',CX [] H s₁ (fun _ _ _=>False) e s'->False) :
    codeAny (model P w) callerA (.call (.ref fa) ⟨[.ref a],[]⟩) (fun r s'=>r=.ok (.ret (.bool true))/\OldK s₁.heap s'.heap/\s'.os=s₁.os/\AllBare s'.gens) s₁:=by
  have rv:=zap hi;have lenV:=hi.length
  -- from an abstract heap in which nothing but the script may be tracked
  have core:∀H:Hp,Only H->SqL K H a (ns.map V.int)->HOk P w H s₁.heap->(∀b,H b≠none->b=a)->(H a≠none->K.lookup a=none) ->
      codeAny (model P w) callerA (.call (.ref fa) ⟨[.ref a],[]⟩) (fun r s'=>r=.ok (.ret (.bool true))/\OldK s₁.heap s'.heap/\s'.os=s₁.os/\AllBare s'.gens) s₁:=by
    intro H hO hS hok hA hK;have base_of:∀{b:Addr} {o:Obj},s₁.heap.get? b=some o->H b=none->(hidT s₁.heap H).get? b=some o:=fun e n=>zjz e n
    have noA:∀{b:Addr} {o:Obj} {es:Array DictEntry} {ep:Nat},s₁.heap.get? b=some o->o.data=.dict es ep->H b=none:=fun {b o es ep} e d=>by
      cases q:H b with
      | none=>rfl
      | some u =>
        have e':b=a:=hA b (by rw[q];simp);subst e';rw[ha]at e;cases e;have d':Data.seq vs.toArray _=Data.dict es ep:=d;cases d'
    have nsK:∀{b:Addr} {m:Str->Option Value},s₁.heap.Ns b m->(hidT s₁.heap H).Ns b m:=fun {b m} ⟨o,es,ep,e,d,r⟩=>⟨o,es,ep,base_of e (noA e d),d,r⟩
    have hKb:K.In (hidT s₁.heap H):=fun b o e=>base_of (KX b o e) (by
      cases q:H b with
      | none=>rfl
      | some u =>
        have e':b=a:=hA b (by rw[q];simp);subst e'
        rw[hK (by rw[q];simp)]at e;cases e)
    have hM:Mod K mg (hidT s₁.heap H):=⟨hKb,nsK hns,⟨mb,nsK hb,hbb⟩,let ⟨mc,h1,h2⟩:=hlim;⟨mc,nsK h1,h2⟩⟩;have e0:Env0 P w K mg (hidT s₁.heap H) callerA [] s₁ H:=⟨rfl,hM,fun b o e=>zl7 e,YY (zhp _ _),trivial,fun b hb=>absurd (show b∈([]:List Addr) from hb) (by simp),hok,.of_eq hg⟩;refine codeAny_mono ((F _ hKb (nsK hns)).run callerA [] s₁ H ⟨[.ref a],[]⟩ [.ref a] [.ref a] _ _ hr e0 (hbind s₁ (.ref a)) (.cons rfl .nil) (hsp H hO hS)) fun r s' h => ?_
    cases r with
    | error e=>exact(hCX H e s' h).elim
    | ok fl =>
      cases fl with
      | next=>exact False.elim h
      | brk=>exact False.elim h
      | cont=>exact False.elim h
      | ret u =>
        obtain⟨v,H',os,bare,un,hok',r',q⟩:=h;have q':v=.bl true:=q;subst q';obtain rfl:u=Value.bool true:=r';refine⟨rfl,OldK.of_keep fun b o e => ?_,os,bare⟩
        cases q:H b with
        | none=>exact un.keep b o e q (by intro z;exact absurd (show b∈([]:List Addr) from z) (by simp)) (by simp)
        | some u =>
          rcases hO b with z | ⟨ob,xs,z⟩
          . rw[q]at z;cases z
          . have z2:=un.frzs b ob _ z
            obtain⟨e1,_⟩:=hok b _ z;obtain⟨e2,_⟩:=hok' b _ z2;rw[e]at e1;cases e1;exact e2
  cases hk:K.lookup a with
  | some o =>
    -- the script is one of the module's own objects
    have e:=KX a o hk;rw[ha]at e;cases e;refine core (fun _=>none) (fun _=>.inl rfl) (.inr ⟨_,vs.toArray,_,hk,rfl,rfl,rfl,by rw[Zr,lenV];exact hl,by simpa using rv⟩) (fun b u z=>by have z':(none:Option HO)=some u:=z;cases z') (fun b z=>absurd rfl z) fun z=>absurd rfl z
  | none =>
    refine core (fun b=>if b=a then some (.frz { cls:=.type "list", data:=.seq vs.toArray } (.lst (ns.map V.int))) else none) (fun b => ?_) (.inl (.inr ⟨{ cls:=.type "list", data:=.seq vs.toArray },if_pos rfl⟩)) (fun b u z => ?_) (fun b z => ?_) fun _=>hk
    . by_cases hb:b=a
      . exact .inr ⟨_,_,if_pos hb⟩
      . exact .inl (if_neg hb)
    . by_cases hb:b=a
      . have z':=(if_pos hb).symm.trans z
        cases z';subst hb;exact⟨ha,by rw[Za];exact hl,vs,_,rv,ha⟩
      . have z':=(if_neg hb).symm.trans z
        cases z'
    . by_cases hb:b=a
      . exact hb
      . exact absurd (if_neg hb) z
end L2
namespace L2
open PySem PySem.Spec PyProof.Rows
abbrev KOf{K:Fg}{h:Heap}(_:K.In h):Fg:=K
theorem zlr{l:PySem.W.OpenLaw}{n k:Nat}{q:Program}{loose:List Str}{XP:(Str->Option Value)->Heap->Prop}{YP:World->Heap->Prop}{d:DefRec}{K:Params->Fg}{CX:World->CXT}{sp:World->Sp}{x:Str}
    (hn:l.most=some n) (hn2:n<=sizeLine) (hdf:d.params.defaults=[]) (hr:Room k callerA)
    (hY:∀(w:World) (h:Heap),YP w h->(K w.params).In h)
    (F:∀(w:World) (mg:Str->Option Value) (fa:Addr) (h:Heap),(K w.params).In h->h.Ns mainGlobals mg->mg d.name=some (.ref fa) ->
      ∃fd:FuncData,(∀(s:Shared) (u:Value),BindsTo s fd ⟨[u],[]⟩ [(x,u)]) /\
        ∀base:Heap,(K w.params).In base->base.Ns mainGlobals mg->FnOk l.prog w (K w.params) mg base (CX w) k fa fd [x] (sp w))
    (hsp:∀(w:World) (H:Hp) (a:Addr) (ns:List Int),ns.length<=n->Only H->SqL (K w.params) H a (ns.map V.int)->sp w [.ref a] H (fun v _=>v=.bl true) fun _ _ _=>False)
    (hCX:∀(w:World) (H:Hp) (s:Shared) (e:Value) (s':Shared),CX w [] H s (fun _ _ _=>False) e s'->False) :
    PySem.W.WalkO q loose XP YP l.row.toRowW d [] (fun f vs=>PySem.call f vs):=by
  refine Att.zd4 hn hdf fun w s₀ s₁ mg mb fa o pm cd doc a vs ns G Y ho hd hcd hmg hobj hints hlen hg => ?_
  have KX:=hY w _ Y;obtain⟨fd,hb,hF⟩:=F w mg fa _ KX G.T.g hmg;exact zjd KX G.T.g G.T.b G.T.builtins G.T.nolimit hg hobj hints (Zd hlen hn2) hr hF hb (fun H hO hS=>hsp w H a ns hlen hO hS) fun H e s'=>hCX w H s₁ e s'
theorem zj0{l:PySem.W.OpenLaw}{n k:Nat}{q:Program}{loose:List Str}{XP:(Str->Option Value)->Heap->Prop}{YP:World->Heap->Prop}{d:DefRec}{K:Params->Fg}{CX:CXT}{sp:Fg->Sp}{x:Str}
    (hn:l.most=some n) (hn2:n<=sizeLine) (hdf:d.params.defaults=[]) (hr:Room k callerA)
    (hY:∀(w:World) (h:Heap),YP w h->(K w.params).In h)
    (F:∀(w:World) (mg:Str->Option Value) (fa:Addr) (h:Heap),(K w.params).In h->h.Ns mainGlobals mg->mg d.name=some (.ref fa) ->
      ∃fd:FuncData,(∀(s:Shared) (u:Value),BindsTo s fd ⟨[u],[]⟩ [(x,u)]) /\
        ∀base:Heap,(K w.params).In base->base.Ns mainGlobals mg->FnOk l.prog w (K w.params) mg base CX k fa fd [x] (sp (K w.params)))
    (hsp:∀(K:Fg) (H:Hp) (a:Addr) (ns:List Int),ns.length<=n->Only H->SqL K H a (ns.map V.int)->sp K [.ref a] H (fun v _=>v=.bl true) fun _ _ _=>False)
    (hCX:∀(H:Hp) (s:Shared) (e:Value) (s':Shared),CX [] H s (fun _ _ _=>False) e s'->False) :
    PySem.W.WalkO q loose XP YP l.row.toRowW d [] (fun f vs=>PySem.call f vs) :=
  zlr (K:=K) (CX:=fun _=>CX) (sp:=fun w=>sp (K w.params)) hn hn2 hdf hr hY F (fun w H a ns h1 h2 h3=>hsp (K w.params) H a ns h1 h2 h3) fun _ H s e s'=>hCX H s e s'
end L2
namespace L2
open PySem PySem.Spec PyProof.Rows
def wx(s:Stmt):Arguments:=match s with
  | .FunctionDef _ a _ _ _ _ _ _ _ _=>a
  | _=>{ posonlyargs:=[],args:=[],vararg:=none,kwonlyargs:=[],kw_defaults:=[],kwarg:=none,defaults:=[] }
def yg(s:Stmt):List Stmt:=match s with
  | .FunctionDef _ _ b _ _ _ _ _ _ _=>b
  | _=>[]
def zf(s:Stmt):Scope:=match s with
  | .FunctionDef _ _ _ _ _ _ sc _ _ _=>sc
  | _=>{ kind:=.function,names:=[],isGenerator:=false,isCoroutine:=false }
abbrev CX0:CXT:=fun _ _ _ _ _ _=>False
abbrev E0:XK:=fun _ _ _=>False
theorem pass0{X:Cx}:ot CX0 X E0:=fun _ _ _ _ _ _ _ h=>h.elim
structure Fun(K:Fg)(x qual:Str)(st:Stmt)(f:Addr)(fd:FuncData):Prop where
  ex:∃(oc:Value) (od:Option Addr) (kV doc pm:Value) (an:Option Addr) (cdv ct:Value) (osl:Array (Option Value)),
    fd=PySem.W.fnOf x qual (wx st) (yg st) (zf st) .none kV doc pm an cdv ct/\K.lookup f=some ⟨oc,od,.func fd,osl⟩/\PySem.W.codeIn K cdv qual=true
  kp:PySem.W.keepIn K (.ref f)=true
section
variable{P:Program}{w:World}{K:Fg}{mg:Str->Option Value}{base:Heap}
theorem Fun.ok{x qual:Str}{st:Stmt}{f:Addr}{fd:FuncData}{N ps:List Str}{k:Nat}{sp:Sp}(F:Fun K x qual st f fd)(S:zq N ps (zf st))(len:∀vs H Q E,sp vs H Q E->vs.length=ps.length)
    (hbody:∀(cdv:Value) (A:Around) (outer:List Env) (s:Shared) (H:Hp) (vs:List V) (Q:VK) (E:XK),Room k (A.deeper (envOfC qual (zf st) s.heap.objs.size f cdv))->sp vs H Q E ->
      ∃t,PSs (cxOf CX0 P w K mg base N qual (zf st) f cdv A outer s H E).nox (yg st) t/\t { nx:=fun _ H'=>Q .non H',rt:=Q } (start N vs) H):FnOk P w K mg base CX0 (k+1) f fd ps sp:=by
  obtain⟨oc,od,kV,doc,pm,an,cdv,ct,osl,rfl,lk,hcd⟩:=F.ex;refine zfr lk hcd S len fun A outer s H vs Q E hr hsp => ?_
  obtain⟨t,h,q⟩:=hbody cdv A outer s H vs Q E hr hsp;exact⟨t,h.nox,q⟩
theorem Fun.binds{x qual:Str}{st:Stmt}{f:Addr}{fd:FuncData}{ps:List Str}(F:Fun K x qual st f fd)
    (h:∀(kV doc pm:Value) (an:Option Addr) (cdv ct:Value) (us:List Value),us.length=ps.length->bindArgs (PySem.W.fnOf x qual (wx st) (yg st) (zf st) .none kV doc pm an cdv ct) ⟨us,[]⟩=pure (ps.zip us)):Binds K fd ps []:=by
  obtain⟨oc,od,kV,doc,pm,an,cdv,ct,osl,rfl,lk,hcd⟩:=F.ex;exact .all (h kV doc pm an cdv ct)
theorem je{x qual:Str}{st:Stmt}{f:Addr}{oc:Value}{od an:Option Addr}{osl:Array (Option Value)}{kV doc pm cdv ct:Value}(l:K.lookup f=some ⟨oc,od,.func (PySem.W.fnOf x qual (wx st) (yg st) (zf st) .none kV doc pm an cdv ct),osl⟩)
    (c:PySem.W.codeIn K cdv qual=true) (k:PySem.W.keepIn K (.ref f)=true):Fun K x qual st f (PySem.W.fnOf x qual (wx st) (yg st) (zf st) .none kV doc pm an cdv ct):=⟨⟨oc,od,kV,doc,pm,an,cdv,ct,osl,rfl,l,c⟩,k⟩
end
theorem hu_of{A:Around}{k:Nat}(hr:Room k A):A.units+1<cLine:=Yn (Yk (by decide:1<=64) _) hr.units
section
variable{X:Cx}
theorem pv (i:Nat) {x:Str} {pos:Pos} (hN:X.N[i]? = some x:=by rfl) (hv:Vis X.env.scope x:=by first | exact Or.inl rfl | exact Or.inr (Or.inl rfl) | exact Or.inr (Or.inr rfl)) (hd:(x==("__debug__" : Str))=false:=by decide)
    (hcd:(x==("__classdict__" : Str))=false:=by decide):PE X (.Name x pos) (tVar i):=pe_var hN hv hd hcd
end
theorem iteF{A B:Prop}(h:B):if false=true then A else B:=by
  rw[if_neg Bool.false_ne_true];exact h
theorem iteT{A B:Prop}(h:A):if true=true then A else B:=by
  rw[if_pos rfl];exact h
theorem ite2{c A B:Prop}[Decidable c](h1:c->A)(h2:¬c->B):if c then A else B:=by
  by_cases h:c
  . rw[if_pos h]
    exact h1 h
  . rw[if_neg h]
    exact h2 h
theorem zfs{c A B:Prop}[Decidable c](hc:c)(h:B):if (!decide c)=true then A else B:=by
  rw[decide_eq_true hc];exact iteF h
def Same(H H':Hp):Prop:=∀b o,H b=some o->H' b=some o
theorem Same.refl(H:Hp):Same H H:=fun _ _ h=>h
theorem Same.trans{H H1 H2:Hp}(a:Same H H1)(b:Same H1 H2):Same H H2:=fun c o h=>b c o (a c o h)
theorem Same.free{H H':Hp}(e:Same H H'){l:Addr}(h:H' l=Option.none):H l=Option.none:=by
  cases q:H l with
  | none=>rfl
  | some o =>
    rw[e l o q]at h;cases h
theorem Same.seq{K:Fg}{H H':Hp}{a:Addr}{xs:List V}(e:Same H H')(h:SqL K H a xs):SqL K H' a xs:=by
  rcases h with (h | ⟨o,h⟩) | h
  . exact .inl (.inl (e _ _ h))
  . exact .inl (.inr ⟨o,e _ _ h⟩)
  . exact .inr h
end L2
namespace L2
open PySem PySem.Spec PyProof.Rows
section
variable{κ:Type}[DecidableEq κ]
def valV(kvs:List (κ×V))(k:κ):Option V:=(kvs.find? fun kv=>decide (kv.1=k)).map (·.2)
def putK(kvs:List (κ×V))(k:κ)(v:V):List (κ×V) :=
  if (kvs.any fun kv=>decide (kv.1=k))=true then kvs.map (fun kv=>if kv.1=k then(kv.1,v) else kv) else kvs++[(k,v)]
theorem j2{p:κ×V}{r:List (κ×V)}{k:κ}(e:p.1=k):valV (p::r) k=some p.2:=by simp[valV,Ye,e]
theorem j7{p:κ×V}{r:List (κ×V)}{k:κ}(e:¬p.1=k):valV (p::r) k=valV r k:=by simp[valV,Ye,e]
theorem jn(k:κ):∀kvs:List (κ×V),(kvs.any fun kv=>decide (kv.1=k))=(valV kvs k).isSome
  | []=>rfl
  | p::r=>by
    rw[List.any_cons]
    by_cases e:p.1=k
    . simp only[j2 e,decide_eq_true e,Bool.true_or,Option.isSome_some]
    . rw[j7 e,decide_eq_false e,Bool.false_or];exact jn k r
theorem zed(kvs:List (κ×V))(k:κ)(v:V):(putK kvs k v).length<=kvs.length+1:=by
  unfold putK
  split
  . rw[Za];omega
  . rw[Zo,ZL,Yw];omega
theorem zkb{kvs:List (κ×V)}{k:κ}(v:V)(h:valV kvs k=none):putK kvs k v=kvs++[(k,v)]:=by
  unfold putK;rw[jn,h];exact if_neg (by decide)
theorem RelO.isSome_eq{o:Option V}{u:Option Value}(r:RelO o u):o.isSome=u.isSome:=by
  cases o with
  | none=>cases u with
    | none=>rfl
    | some _=>exact(show False from r).elim
  | some _=>cases u with
    | none=>exact(show False from r).elim
    | some _=>rfl
theorem KV.val{kvs:List (κ×V)}{vs:List (κ×Value)}(r:KV kvs vs)(k:κ):RelO (valV kvs k) (valueAt vs k):=by
  unfold KV at r
  induction r with
  | nil=>exact True.intro
  | @cons p q ps qs h t ih =>
    obtain⟨h1,h2⟩:=h
    by_cases e:p.1=k
    . have e':q.1=k:=h1.symm.trans e
      have b:valueAt (q::qs) k=some q.2:=by simp[valueAt,Ye,e']
      rw[j2 e,b];exact h2
    . have e':¬q.1=k:=fun z=>e (h1.trans z)
      have b:valueAt (q::qs) k=valueAt qs k:=by simp[valueAt,Ye,e']
      rw[j7 e,b];exact ih
end
theorem ff{P:Program}{w:World}{k:Key}{u:Value}(r:RelV (kV k) u):(wk P w).is k u=true:=by
  cases k with
  | inl i=>obtain⟨t,e⟩:=(show ∃t,u=Value.int i t from r);subst e;exact zeh P w i t
  | inr x=>obtain⟨t,e⟩:=(show ∃t,u=Value.str x t from r);subst e;exact ky P w x t
theorem zav{P:Program}{w:World}:∀{ks:List Key} {us:List Value},Vals (ks.map kV) us->ItemsAre (wk P w) ks us
  | [],_,r=>by rw[Yi]at r;cases r;exact .nil
  | k::ks,_,r=>by
    rw[ZM]at r
    cases r with
    | cons h t=>exact .cons (ff h) (zav t)
abbrev KT(H:Hp):List (List Key×V)->List (List Key×Addr×Value)->Prop:=Paired fun p q=>p.1=q.1/\H q.2.1=some (.tup (p.1.map kV))/\RelV p.2 q.2.2
theorem KT.val{H:Hp}{kvs:List (List Key×V)}{xs:List (List Key×Addr×Value)}(r:KT H kvs xs)(k:List Key):RelO (valV kvs k) ((atKey xs k).map (·.2)):=by
  induction r with
  | nil=>exact True.intro
  | @cons p q ps qs h t ih =>
    obtain⟨h1,_,h2⟩:=h
    by_cases e:p.1=k
    . have e':q.1=k:=h1.symm.trans e
      have b:atKey (q::qs) k=some q.2:=by simp[atKey,Ye,e']
      rw[j2 e,b];exact h2
    . have e':¬q.1=k:=fun z=>e (h1.trans z)
      have b:atKey (q::qs) k=atKey qs k:=by simp[atKey,Ye,e']
      rw[j7 e,b];exact ih
theorem KT.repl{H:Hp}{kvs:List (List Key×V)}{xs:List (List Key×Addr×Value)}(r:KT H kvs xs)(k:List Key){y:V}{u:Value}(ry:RelV y u) :
    KT H (kvs.map fun kv=>if kv.1=k then(kv.1,y) else kv) (xs.map (putAt k u)):=by
  induction r with
  | nil=>exact .nil
  | @cons p q ps qs h t ih =>
    rw[ZM,ZM];refine .cons ?_ ih;obtain⟨h1,h2,h3⟩:=h;unfold putAt
    by_cases e:p.1=k
    . rw[if_pos e,if_pos (h1.symm.trans e)];exact⟨h1,h2,ry⟩
    . rw[if_neg e,if_neg (fun z=>e (h1.trans z))];exact⟨h1,h2,h3⟩
theorem KT.put{H:Hp}{kvs:List (List Key×V)}{xs:List (List Key×Addr×Value)}(r:KT H kvs xs)(k:List Key){b:Addr}{y:V}{u:Value}(hb:H b=some (.tup (k.map kV)))(ry:RelV y u) :
    KT H (putK kvs k y) (storedH xs k b u):=by
  have e:(kvs.any fun kv=>decide (kv.1=k))=(atKey xs k).isSome:=by
    rw[jn,(r.val k).isSome_eq,Option.isSome_map]
  unfold putK storedH;rw[e]
  by_cases q:(atKey xs k).isSome=true
  . rw[if_pos q,if_pos q];exact r.repl k ry
  . rw[if_neg q,if_neg q];exact Paired.snoc r ⟨rfl,hb,ry⟩
theorem KT.keeps{H H':Hp}{kvs:List (List Key×V)}{xs:List (List Key×Addr×Value)}(r:KT H kvs xs)(ht:∀b ys,H b=some (.tup ys)->H' b=some (.tup ys)):KT H' kvs xs :=
  Paired.mapP r fun _ _ z=>⟨z.1,ht _ _ z.2.1,z.2.2⟩
section
variable{P:Program}{w:World}{H:Hp}{h:Heap}{a:Addr}
theorem rd_of{u:HO}(ok:HOk P w H h)(e:Rd H a u):ObjOk P w H h a u:=e.ok ok
theorem zf0{kvs:List (Key×V)}(ok:HOk P w H h)(e:Rd H a (.dK kvs)):kvs.length<=sizeLine/\(a==sysModules)=false/\∃vs,KV kvs vs/\h.DictOf (wk P w) a vs :=
  show ObjOk P w H h a (.dK kvs) from rd_of ok e
theorem ag{ks:List Key}(ok:HOk P w H h)(e:H a=some (.tup (ks.map kV))):(tupleKind (wk P w)).is h ks a:=by
  obtain⟨_,its,r,o,h1,h2,n,h3⟩:=(show ObjOk P w H h a (.tup (ks.map kV)) from ok a _ e);exact⟨o,its.toArray,n,h1,h2,h3.1,by simpa using zav r⟩
theorem zgc{kvs:List (List Key×V)}(ok:HOk P w H h)(e:Rd H a (.dT kvs)):kvs.length<=sizeLine/\(a==sysModules)=false /\
    ∃xs,KT H kvs xs/\h.DictOfH (tupleKind (wk P w)) a xs:=by
  obtain⟨z,y,xs,r,o,es,ep,h1,h2,h3,h4,h5⟩:=(show ObjOk P w H h a (.dT kvs) from rd_of ok e);refine⟨z,y,xs,r,o,es,ep,h1,h2,h3,h4,fun x hx => ?_,h5⟩
  have all:∀{l:List (List Key×V)} {m:List (List Key×Addr×Value)},KT H l m->∀x∈m,(tupleKind (wk P w)).is h x.1 x.2.1:=by
    intro l m q
    induction q with
    | nil=>intro x hx;exact nomatch hx
    | @cons p q ps qs hq t ih =>
      intro x hx
      rcases ZK.mp hx with e | hx
      . subst e
        exact ag ok (by rw[<-hq.1];exact hq.2.1)
      . exact ih x hx
  exact all r x hx
end
def DGet(H:Hp)(a:Addr)(y:V)(r:Option V):Prop :=
  (∃kvs k,Rd H a (.dK kvs)/\y=kV k/\r=valV kvs k)\/∃kvs k b,Rd H a (.dT kvs)/\y=.ref b/\H b=some (.tup (k.map kV))/\r=valV kvs k
def DPut(H:Hp)(a:Addr)(y v:V)(H':Hp):Prop :=
  (∃kvs k,H a=some (.dK kvs)/\y=kV k/\kvs.length<sizeLine/\H'=upd H a (.dK (putK kvs k v))) \/
  ∃kvs k b,H a=some (.dT kvs)/\y=.ref b/\H b=some (.tup (k.map kV))/\kvs.length<sizeLine/\H'=upd H a (.dT (putK kvs k v))
theorem DGet.t{H:Hp}{a b:Addr}{kvs:List (List Key×V)}{k:List Key}(e:H a=some (.dT kvs))(eb:H b=some (.tup (k.map kV))):DGet H a (.ref b) (valV kvs k):=.inr ⟨kvs,k,b,.inl e,rfl,eb,rfl⟩
section
variable{X:Cx}{pins:List (Addr×Obj)}{σ:St}{H:Hp}{s:Shared}{a:Addr}{y v:V}{u r:Value}{o:Option V}{A:Around}{E:Value->Shared->Prop}
theorem Inv.big(I:Inv X pins σ H s):sysModules<s.heap.objs.size:=by
  have h:mainGlobals<s.heap.objs.size:=(I.mod.glob.keeps I.bk).lt;exact Nat.lt_trans (by decide) h
theorem zhj{Q:Value->Shared->Prop}(hu:A.units+1<cLine)(I:Inv X pins σ H s)(g:DGet H a y (some v))(ry:RelV y u)(h:∀w' s',Inv X pins σ H s'->RelV v w'->Q w' s') :
    wpAny (model X.prog X.w) A (getItem (.ref a) u) Q E s:=by
  rcases g with ⟨kvs,k,e,ey,l⟩ | ⟨kvs,k,b,e,ey,eb,l⟩
  . subst ey
    obtain⟨z,hd,vs,rel,dd⟩:=zf0 I.hok e;obtain⟨w',hw,rw'⟩:=RelO.some_of (v:=v) (o:=valueAt vs k) (by rw[l];exact rel.val k);exact wpAny_getItem_of (ff ry) dd.mapOf hw (h w' _ (I.tok _) rw')
  . subst ey
    cases (show u=Value.ref b from ry);obtain⟨z,hd,xs,rel,dd⟩:=zgc I.hok e;obtain⟨w',hw,rw'⟩:=RelO.some_of (v:=v) (o:=(atKey xs k).map (·.2)) (by rw[l];exact rel.val k);obtain⟨p,hp,hp2⟩:=Option.map_eq_some_iff.mp hw;refine wpAny_getItem_heap (tupleKind_room_in1 hu) (ag I.hok eb) dd hp ?_;rw[hp2];exact h w' _ (I.tok _) rw'
theorem zkn{Q:Value->Shared->Prop}(hu:A.units+1<cLine)(I:Inv X pins σ H s)(g:DGet H a y o)(ry:RelV y u)(h:∀s',Inv X pins σ H s'->Q (.bool (!o.isSome)) s') :
    wpAny (model X.prog X.w) A (compareOp .NotIn u (.ref a)) Q E s:=by
  rcases g with ⟨kvs,k,e,ey,l⟩ | ⟨kvs,k,b,e,ey,eb,l⟩
  . subst ey
    obtain⟨z,hd,vs,rel,dd⟩:=zf0 I.hok e;refine wpAny_notIn_of (ff ry) hd dd.mapOf ?_;rw[<-(rel.val k).isSome_eq,<-l];exact h _ (I.tok _)
  . subst ey
    cases (show u=Value.ref b from ry);obtain⟨z,hd,xs,rel,dd⟩:=zgc I.hok e;refine wpAny_notIn_heap (tupleKind_room_in1 hu) (ag I.hok eb) hd dd ?_;have q:=(rel.val k).isSome_eq;rw[Option.isSome_map]at q;rw[<-q,<-l];exact h _ (I.tok _)
end
section
variable{X:Cx}{pins:List (Addr×Obj)}{σ:St}{H:Hp}{s:Shared}{a:Addr}{kvs:List (Key×V)}{k:Key}{u:Value}{A:Around}{E:Value->Shared->Prop}
end
def NoSl(i:Expr):Prop:=∀ov iv,subscripted i false ov iv=operate [ov,iv] (getItem ov iv)
theorem ze4{prog:Program}{w:World}{A:Around}{E:Value->Shared->Prop}{s:Shared}{env:Env}{value slice:Expr}{pos:Pos}{T id:String}{Q:Value->Shared->Prop}
    (hl:typeLookup (.type T) "__getitem__" = pure (some (.builtin id))) (hs:NoSl slice)
    (h:wpAny (model prog w) A (eval value env) (fun o s₁=>wpAny (model prog w) A (eval slice env) (fun i s₂=>s₂.TypeIs o T/\wpAny (model prog w) A (getItem o i) Q E s₂) E s₁) E s) :
    wpAny (model prog w) A (eval (.Subscript value slice pos) env) Q E s:=by
  refine Subscript_ (wpAny_mono h (fun o s₁ h₁=>wpAny_mono h₁ (fun i s₂ h₂ => ?_) fun _ _ x=>x) fun _ _ x=>x);obtain⟨hT,h₂⟩:=h₂;unfold subscriptTail;refine wpAny_bind ?_;rw[getitemInPython_of_ne hT.not_modules];refine wpAny_bind (wpAny_specialOf hT hl ?_)
  have fin:wpAny (model prog w) A (subscripted slice false o i) (fun r s₃=>wpAny (model prog w) A (letTemporaryGo value o r >>= fun _=>pure r) Q E s₃) E s₂:=by
    rw[hs o i];exact wpAny_operating (wpAny_mono h₂ (fun r s₃ h₃=>wpAny_bind (wpAny_letTemporaryGo (wpAny_pure h₃))) fun _ _ x=>x)
  first
    | exact wpAny_pure (wpAny_bind fin)
    | exact wpAny_bind (wpAny_pure (wpAny_bind fin))
    | exact wpAny_bind fin
theorem zec{X:Cx}{pins:List (Addr×Obj)}{σ:St}{H:Hp}{s:Shared}{a:Addr}{y:V}{o:Option V}(I:Inv X pins σ H s)(g:DGet H a y o):s.TypeIs (.ref a) "dict" := by
  rcases g with ⟨kvs,k,e,_,_⟩ | ⟨kvs,k,b,e,_,_,_⟩
  . obtain⟨_,_,vs,_,dd⟩:=zf0 I.hok e
    exact dd.typeIs
  . obtain⟨_,_,xs,_,dd⟩:=zgc I.hok e
    exact dd.typeIs
def tDGet(td ty:TE):TE:=fun σ H Q=>td σ H fun x H1=>ty σ H1 fun y H2=>∃a v,x=.ref a/\DGet H2 a y (some v)/\Q v H2
section
variable{X:Cx}{o i e value:Expr}{pos pos' tpos:Pos}{td ty tv:TE}
theorem zlu(hu:X.A.units+1<cLine)(ho:PE X o td)(hi:PE X i ty)(hs:NoSl i):PE X (.Subscript o i pos) (tDGet td ty):=by
  intro pins s σ H Q I h;refine ze4 PySem.F.slot_dict_getitem.lookup hs (thn (ho pins s σ H _ I h) fun u s1 ⟨x,H1,I1,rx,q1⟩=>thn (hi pins s1 σ H1 _ I1 q1) fun iv s2 ⟨y,H2,I2,ry,a,v,ex,g,q2⟩ => ?_);subst ex;obtain rfl:u=Value.ref a:=rx;exact⟨zec I2 g,zhj hu I2 g ry fun w' s3 I3 rw'=>⟨v,H2,I3,rw',q2⟩⟩
end
def tDNewK:TE:=fun _ H Q=>∀p,H p=none->Q (.ref p) (upd H p (.dK []))
def tDNewT:TE:=fun _ H Q=>∀p,H p=none->Q (.ref p) (upd H p (.dT []))
section
variable{X:Cx}{pos:Pos}
end
section
variable{X:Cx}{pins:List (Addr×Obj)}{σ:St}{H:Hp}{s:Shared}{a:Addr}{y d:V}{u r:Value}{o:Option V}{A:Around}{E:Value->Shared->Prop}
end
section
variable{X:Cx}{o e f:Expr}{apos cpos:Pos}{td ty tx:TE}
end
section
variable{X:Cx}{pins:List (Addr×Obj)}{σ:St}{H:Hp}{s:Shared}{a:Addr}{kvs:List (Key×V)}{A:Around}{E:Value->Shared->Prop}
end
section
variable{X:Cx}{pins:List (Addr×Obj)}{σ:St}{H:Hp}{s:Shared}{a:Addr}{y:V}{u:Value}{A:Around}{E:Value->Shared->Prop}
end
end L2
namespace L2
open PySem PySem.Spec PyProof.Rows
section
variable{X:Cx}
end
section
variable{κ:Type}[DecidableEq κ]
theorem zk3{kvs:List (κ×V)}{k:κ}{v:V}(h:valV kvs k=some v):k∈kvs.map (·.1):=by
  have q:(kvs.any fun kv=>decide (kv.1=k))=true:=by
    rw[jn,h]
    all_goals rfl
  obtain⟨p,hp,e⟩:=List.any_eq_true.mp q;exact Zp.mpr ⟨p,hp,of_decide_eq_true e⟩
end
end L2
namespace L2
open PySem PySem.Spec PyProof.Rows
def ac(ns:List (Str×NameKind))(y n:Str):Bool:=match ns.lookup y with
  | some .free=>y==n
  | some .local=>false
  | some .cell=>false
  | _=>true
def vv(ns:List (Str×NameKind)):List Str->List Str->Bool
  | [],[]=>true
  | y::ys,n::ms=>ac ns y n&&vv ns ys ms
  | _,_=>false
def ox(ns:List (Str×NameKind))(env:Env):Bool:=ns.all fun y => !(y.2==.free)||(env.kindOf y.1==some .cell||env.kindOf y.1==some .free)
def nw(ns:List (Str×NameKind)):Bool:=ns.all fun y => !(y.2==.cell)&&(!(y.2==.local)||ns.lookup y.1==some .local)
theorem bt{ns:List (Str×NameKind)}:∀{N2 N:List Str} {i:Nat} {y:Str},vv ns N2 N=true->N2[i]? = some y->ac ns y y=true/\(ns.lookup y=some .free->N[i]? = some y)
  | [],[],_,_,_,e=>by simp at e
  | y'::ys,n::ms,0,y,h,e=>by
    simp at e;subst e;unfold vv at h;rw[Bool.and_eq_true]at h;refine⟨?_,fun hf => ?_⟩
    . have h1:=h.1
      unfold ac at h1 ⊢
      split at h1 <;> first | rfl | (exact absurd h1 Bool.false_ne_true) | (exact beq_self_eq_true _)
    . have h1:=h.1
      unfold ac at h1;rw[hf]at h1;have e:y'=n:=eq_of_beq h1;simp[e]
  | y'::ys,n::ms,i+1,y,h,e=>by
    unfold vv at h;rw[Bool.and_eq_true]at h;obtain⟨h1,h2⟩:=bt (i:=i) (y:=y) h.2 (by simpa using e);exact⟨h1,fun hf=>by simpa using h2 hf⟩
  | [],_::_,_,_,h,_=>by cases h
  | _::_,[],_,_,h,_=>by cases h
theorem o9{ns:List (Str×NameKind)}{env:Env}(h:ox ns env=true){y:Str×NameKind}(hy:y∈ns)(hf:y.2=.free):env.kindOf y.1=some .cell\/env.kindOf y.1=some .free:=by
  have q:=ZS.mp h y hy;rw[hf]at q
  simpa using q
theorem j5{ns:List (Str×NameKind)}(h:nw ns=true):∀y∈ns,y.2≠.cell:=fun y hy e=>by
  have q:=ZS.mp h y hy;rw[e]at q;simp at q
theorem k8{ns:List (Str×NameKind)}(h:nw ns=true):∀y∈ns,y.2=.local->ns.lookup y.1=some .local:=fun y hy e=>by
  have q:=ZS.mp h y hy;rw[e]at q
  simpa using q
theorem qx{env:Env}{x:Str}:∀{ns:List (Str×NameKind)},(ns.map fun(n,k)=>if (k==NameKind.free&&env.scope.kind==.function&&env.kindOf n==some .cell) then(n,NameKind.cell) else(n,k)).lookup x =
    (ns.lookup x).map fun k=>if (k==NameKind.free&&env.scope.kind==.function&&env.kindOf x==some .cell) then NameKind.cell else k
  | []=>rfl
  | (n,k)::r=>by
    have ih:=@qx env x r
    show List.lookup x ((if (k==NameKind.free&&env.scope.kind==.function&&env.kindOf n==some .cell)=true then(n,NameKind.cell) else(n,k))::_)=_
    cases hx:x==n with
    | true =>
      have e:x=n:=eq_of_beq hx;subst e;simp only[ZF,beq_self_eq_true]
      by_cases hc:(k==NameKind.free&&env.scope.kind==.function&&env.kindOf x==some .cell)=true
      . rw[if_pos hc];simp only[ZF,beq_self_eq_true,YD];rw[if_pos hc]
      . rw[if_neg hc];simp only[ZF,beq_self_eq_true,YD];rw[if_neg hc]
    | false =>
      simp only[ZF,hx]
      by_cases hc:(k==NameKind.free&&env.scope.kind==.function&&env.kindOf n==some .cell)=true
      . rw[if_pos hc];simp only[ZF,hx];exact ih
      . rw[if_neg hc];simp only[ZF,hx];exact ih
theorem ib{scope:Scope}{env:Env}(h:∀y∈scope.names,y.2=.free->∃c,env.cells.lookup y.1=some c) :
    ∃cl,closureFor scope env=pure cl/\(∀x c,cl.lookup x=some c->env.cells.lookup x=some c)/\(∀y∈scope.names,y.2=.free->∃c,cl.lookup y.1=some c):=by
  have all:∀(ns:List (Str×NameKind)) (cs:List (Str×Addr)),(∀y∈ns,y.2=.free->∃c,env.cells.lookup y.1=some c)->(∀x c,cs.lookup x=some c->env.cells.lookup x=some c) ->
      ∃cl,(forIn ns cs fun x r=>(if (x.2==NameKind.free)=true then do let a <-cellOf env x.1;pure (ForInStep.yield ((x.1,a)::r)) else pure (ForInStep.yield r):Sem (ForInStep (List (Str×Addr)))))=pure cl /\
        (∀x c,cl.lookup x=some c->env.cells.lookup x=some c)/\(∀x,(cs.lookup x).isSome=true->(cl.lookup x).isSome=true)/\(∀y∈ns,y.2=.free->∃c,cl.lookup y.1=some c):=by
    intro ns
    induction ns with
    | nil=>intro cs _ hc;exact⟨cs,rfl,hc,fun _ z=>z,fun _ z=>nomatch z⟩
    | cons y r ih =>
      intro cs hh hc;have hr:∀z∈r,z.2=.free->∃c,env.cells.lookup z.1=some c:=fun z hz=>hh z (Zv _ hz)
      by_cases hf:y.2=.free
      . obtain⟨c,ec⟩:=hh y ZA hf
        have hc':∀x d,((y.1,c)::cs).lookup x=some d->env.cells.lookup x=some d:=fun x d e=>by
          rw[ZF]at e
          cases hx:x==y.1 with
          | true =>
            rw[hx]at e;have e2:x=y.1:=eq_of_beq hx;cases e;rw[e2];exact ec
          | false =>
            rw[hx]at e;exact hc x d e
        obtain⟨cl,e1,e2,e3,e4⟩:=ih ((y.1,c)::cs) hr hc';refine⟨cl,?_,e2,fun x hx=>e3 x ?_,fun z hz hzf => ?_⟩
        . rw[List.forIn_cons]
          have ek:(y.2==NameKind.free)=true:=by rw[hf];rfl
          simp only[ek,if_true,cellOf,ec,pure_bind];exact e1
        . rw[ZF];split <;> first | rfl | exact hx
        . rcases ZK.mp hz with rfl | hz
          . have:=e3 z.1 (by rw[ZF,beq_self_eq_true];rfl)
            exact Option.isSome_iff_exists.mp this
          . exact e4 z hz hzf
      . obtain⟨cl,e1,e2,e3,e4⟩:=ih cs hr hc
        refine⟨cl,?_,e2,e3,fun z hz hzf => ?_⟩
        . rw[List.forIn_cons]
          have ek:(y.2==NameKind.free)=false:=by simpa using hf
          simp only[ek,Bool.false_eq_true,if_false,pure_bind];exact e1
        . rcases ZK.mp hz with rfl | hz
          . exact absurd hzf hf
          . exact e4 z hz hzf
  obtain⟨cl,e1,e2,_,e4⟩:=all scope.names [] h (fun _ _ z=>by cases z);refine⟨cl,?_,e2,e4⟩;unfold closureFor
  first
    | (rw[show(forIn scope.names ([]:List (Str×Addr)) _:Sem (List (Str×Addr)))=pure cl from e1];rfl)
    | (simp only[bind_pure];exact e1)
    | (show(forIn scope.names [] _ >>= _)=_;exact(congrArg (fun t=>t >>= fun cs=>pure cs) e1))
structure Dyn where
  cl:List (Str×Addr)
  C:Addr
  s₀:Shared
  H₀:Hp
  fp:List Addr
abbrev yc(X:Cx)(scope:Scope)(N':List Str)(d:Dyn):Cx where
  prog:=X.prog
  w:=X.w
  K:=X.K
  mg:=X.mg
  base:=X.base
  A:=X.A
  N:=N'
  s₀:=d.s₀
  H₀:=d.H₀
  env:=compEnvC scope d.cl d.C X.env
  outer:=X.stack
  stack:=X.stack
  ex:=d.fp
  fn:=fun _=>false
  calm:=true
  pn:=[]
  xe:=fun _ _=>False
theorem zd3{prog:Program}{w:World}{A:Around}{R:Result->Shared->Prop}{s:Shared}{elt target iter:Expr}{ifs:List Expr}{scope:Scope}{pos:Pos}{it acc:Value}{env:Env}(I:Nat->Shared->Prop)
    (turn:∀n s,I n s->wpAny (model prog w) A (pyNext it) (fun r s₁=>match r with
      | none=>R (.ok .next) s₁
      | some v=>wpAny (model prog w) A (letOwnedTupleGo target it v) (fun _ s₁'=>wpAny (model prog w) A (assign target env v) (fun _ s₂ =>
          wpAny (model prog w) A (forIn ifs true fun c r=>if r=true then do let ok <-isTrue c env (eval c env);pure (ForInStep.yield ok) else pure (ForInStep.yield r)) (fun ok s₃ =>
            if ok=true then wpAny (model prog w) A (eval elt env) (fun x s₄ =>
              wpAny (model prog w) A (call (.builtin "list.append") [acc,x]) (fun _ s₅=>∃m,m<n/\I m s₅) (fun _ _=>False) s₄) (fun _ _=>False) s₃
            else ∃m,m<n/\I m s₃) (fun _ _=>False) s₂) (fun _ _=>False) s₁') (fun _ _=>False) s₁) (fun _ _=>False) s)
    (n:Nat) (h:I n s) :
    codeAny (model prog w) A (.compLoop (.ListComp elt [⟨target,iter,ifs,0⟩] scope pos) 0 it acc env) R s:=by
  refine codeAny_loop rfl I (fun n s hI => ?_) n h
  show wpAny _ A ((compTurn (.ListComp elt [⟨target,iter,ifs,0⟩] scope pos) 0 it acc env).onRaise (fun x=>do noteFrame x env;theTreesLotGoes x)) _ _ s
  refine wpAny_noted ?_;rw[compTurn_list];refine wpAny_bind (wpAny_standAt (wpAny_bind (wpAny_mono (turn n s hI) (fun r s₁ h₁ => ?_) fun _ _ f=>f.elim)))
  cases r with
  | none=>exact wpAny_pure h₁
  | some v =>
    refine wpAny_bind (wpAny_mono h₁ (fun _ s₁' h₁' => ?_) fun _ _ f=>f.elim);refine wpAny_bind (wpAny_mono h₁' (fun _ s₂ h₂=>wpAny_bind (wpAny_mono h₂ (fun ok s₃ h₃ => ?_) fun _ _ f=>f.elim)) fun _ _ f=>f.elim)
    cases ok with
    | false=>exact wpAny_pure ⟨rfl,h₃⟩
    | true =>
      exact wpAny_bind (wpAny_bind (wpAny_mono h₃ (fun x s₄ h₄=>wpAny_bind (wpAny_mono h₄ (fun _ s₅ h₅=>wpAny_pure (wpAny_pure ⟨rfl,h₅⟩)) fun _ _ f=>f.elim)) fun _ _ f=>f.elim))
def PTs(X:Cx)(ifs:List Expr)(t:TT):Prop :=
  ∀(pins:List (Addr×Obj)) (s:Shared) (σ:St) (H:Hp) (Q:Bool->Hp->Prop),Inv X pins σ H s->t σ H Q ->
    wpAny (model X.prog X.w) X.A (forIn ifs true fun c r=>if r=true then do let ok <-isTrue c X.env (eval c X.env);pure (ForInStep.yield ok) else pure (ForInStep.yield r)) (TP X pins σ Q) X.xe s
def tAll:TT:=fun _ H Q=>Q true H
theorem yi{X:Cx}:PTs X [] tAll:=fun _ _ _ H _ I h=>wpAny_tests_nil ⟨H,I,h⟩
theorem zku{X:Cx}{c:Expr}{t:TT}(h:PT X c t):PTs X [c] t:=fun pins s σ H Q I q=>wpAny_tests_one (h pins s σ H Q I q)
def ra(J:It)(σ:St)(k:Nat)(g:TG)(tt:TT)(te:TE)(H1:Hp)(Fin:List V->Hp->Prop):Prop :=
  ∃W:Nat->Nat->List V->Hp->Prop,(∃m,W 0 m [] H1)/\∀i m ys H,W i m ys H->ys.length<=sizeLine /\
    ((J.stop i H/\Fin ys H)\/(J.go i H/\∃N:List V->Hp->Prop,(∀ys' H',N ys' H'->∃m',m'<m/\W (i+1) m' ys' H')/\∀x H',J.yld i H x H'->g x (List.replicate k none++σ) H' fun σ2 H2=>σ2.drop k=σ /\
      tt σ2 H2 fun b H3=>if b=true then te σ2 H3 fun v H4=>N (ys++[v]) H4 else N ys H3))
abbrev lobj(its:List Value):Obj:={ cls:=.type "list", data:=.seq its.toArray its.length }
section
variable{X:Cx}{pins:List (Addr×Obj)}{σ:St}{H2:Hp}{s₂:Shared}{scope:Scope}{ts N2:List Str}{cl:List (Str×Addr)}{C D:Addr}{fp:List Addr}
theorem zk1(I2:Inv X pins σ H2 s₂)(hc:X.calm=true)(f2:∀b∈fp,FpOk X pins H2 b/\b<s₂.heap.objs.size)(hkind:scope.kind=.function)(hown:nw scope.names=true)(hfree:ox scope.names X.env=true)
    (hcl1:∀x c,cl.lookup x=some c->X.env.cells.lookup x=some c) (hcl2:∀y∈scope.names,y.2=.free->∃c,cl.lookup y.1=some c) (hC:s₂.heap.objs.size<=C) :
    (yc X scope (ts++N2) ⟨cl,C,s₂,H2,fp⟩).Ok:=by
  refine⟨I2.ok.mod,hkind,I2.ok.glob,I2.ok.blt,hC,fun x y c e1 e2=>I2.ok.inj x y c (hcl1 _ _ e1) (hcl1 _ _ e2),fun x hx => ?_,fun x c z _=>absurd (show false=true from z) Bool.false_ne_true,fun _=>I2.ok.hd hc,I2.ok.frames,.inl rfl,fun b hb => ?_,I2.bs,Zd I2.ok.bsz I2.sz,fun b o e hb => ?_,fun b hb hfs => ?_,I2.stack,I2.stkFree⟩
  . have hx':(relabel scope X.env).names.lookup x=some .cell\/(relabel scope X.env).names.lookup x=some .free:=hx
    have e0:(relabel scope X.env).names.lookup x=_:=qx (env:=X.env) (x:=x) (ns:=scope.names);rw[e0]at hx'
    cases q:scope.names.lookup x with
    | none=>rw[q]at hx';simp at hx'
    | some k =>
      rw[q]at hx';simp only[YD,Option.some.injEq]at hx';have hm:(x,k)∈scope.names:=PySem.mem_of_lookup q
      have hk:k=.free:=by
        have nc:=j5 hown _ hm
        split at hx'
        . rename_i hcond
          simp only[Bool.and_eq_true]at hcond;exact eq_of_beq hcond.1.1
        . rcases hx' with z | z
          . exact absurd z nc
          . exact z
      exact hcl2 _ hm hk
  . obtain⟨⟨f0,f1,f3,f4,f5,f6⟩,hlt⟩:=f2 b hb
    exact⟨Zs (Zh hlt hC),fun x c e=>f5 x c (hcl1 x c e)⟩
  . obtain⟨⟨f0,f1,f3,f4,f5,f6⟩,hlt⟩:=f2 b hb
    rcases f4 with z | z
    . exact I2.ok.noex b o e z
    . exact absurd (Zh (Heap.lt_size e) (Zd I2.ok.bsz z)) (ZJ _)
  . obtain⟨⟨f0,f1,f3,f4,f5,f6⟩,hlt⟩:=f2 b hb
    rcases ZK.mp (I2.stkSub b hfs) with z | z
    . exact f1 z
    . exact f3 z
theorem cj(I2:Inv X pins σ H2 s₂)(hc:X.calm=true)(f2:∀b∈fp,FpOk X pins H2 b/\b<s₂.heap.objs.size)(hkind:scope.kind=.function)(hown:nw scope.names=true)(hfree:ox scope.names X.env=true)(hout:vv scope.names N2 X.N=true)
    (hcl1:∀x c,cl.lookup x=some c->X.env.cells.lookup x=some c) (hcl2:∀y∈scope.names,y.2=.free->∃c,cl.lookup y.1=some c) (hC:s₂.heap.objs.size<=C) (hDC:D≠C) (hD:s₂.heap.objs.size<=D)
    {h₁:Heap} {tk:Nat} {m:Str->Option Value} (hn:h₁.Ns C m) (old:∀b o,s₂.heap.get? b=some o->h₁.get? b=some o) (hacc:h₁.get? D=some (lobj [])) :
    Inv (yc X scope (ts++N2) ⟨cl,C,s₂,H2,fp⟩) [(D,lobj [])] (List.replicate ts.length none++σ) H2 { s₂ with heap:=h₁,toks:=tk }:=by
  have ok:=zk1 (ts:=ts) (N2:=N2) I2 hc f2 hkind hown hfree hcl1 hcl2 hC
  have hlN:∀{a b:List Str},vv scope.names a b=true->a.length=b.length:=by
    intro a
    induction a with
    | nil=>intro b h;cases b with | nil=>rfl | cons _ _=>cases h
    | cons y ys ih =>
      intro b h
      cases b with
      | nil=>cases h
      | cons n ms =>
        unfold vv at h;rw[Bool.and_eq_true]at h;rw[ZL,ZL,ih h.2]
  refine⟨ok,rfl,I2.bare,Un.kept old,⟨m,hn,fun i x v e1 e2 e3 => ?_⟩,fun x c e => ?_,?_,fun x c e=>I2.freeC x c (hcl1 x c e),fun p hp => ?_,I2.hok.kept old,?_⟩
  . by_cases hi:i<ts.length
    . rw[Zg (by simpa using hi),Yl]at e2
      split at e2 <;> cases e2
    . have hi':ts.length<=i:=ZD.mp hi
      rw[Zf (by simpa using hi')]at e2;rw[ZI]at e2;have e1':(ts++N2)[i]? = some x:=e1;rw[Zf hi']at e1';obtain⟨k1,k2⟩:=bt hout e1';have e0:(relabel scope X.env).names.lookup x=_:=qx (env:=X.env) (x:=x) (ns:=scope.names);have e3':(relabel scope X.env).names.lookup x=some .local\/(relabel scope X.env).names.lookup x=some .cell\/(relabel scope X.env).names.lookup x=some .free:=e3;rw[e0]at e3'
      cases q:scope.names.lookup x with
      | none=>rw[q]at e3';simp at e3'
      | some k =>
        have hm:(x,k)∈scope.names:=PySem.mem_of_lookup q
        have hk:k=.free:=by
          unfold ac at k1;rw[q]at k1 e3'
          cases k with
          | free=>rfl
          | «local» => cases k1
          | cell=>cases k1
          | _=>exfalso;revert e3';simp
        subst hk;obtain⟨mo,hmo,hl⟩:=I2.loc;have hkv:=o9 hfree hm rfl;have vis:Vis X.env.scope x:=hkv.elim (fun z=>.inr (.inl z)) fun z=>.inr (.inr z)
        obtain⟨u,r,l⟩:=hl _ x v (k2 q) e2 vis;refine⟨u,r,.inr ⟨?_,?_⟩⟩
        . show(relabel scope X.env).names.lookup x=some .cell\/(relabel scope X.env).names.lookup x=some .free
          rw[e0,q];simp only[YD,Option.some.injEq]
          split
          . exact .inl rfl
          . exact .inr rfl
        . rcases l with ⟨kl,_⟩ | ⟨_,c,ec,z⟩
          . exfalso
            rcases hkv with z | z <;> (rw[kl]at z;cases z)
          . obtain⟨c',ec'⟩:=hcl2 _ hm rfl
            have:=hcl1 _ _ ec';rw[ec]at this;cases this;obtain⟨o,ho,hd⟩:=z;exact⟨c,ec',o,old _ _ ho,hd⟩
  . obtain⟨v,o,ho,hd⟩:=I2.cell x c (hcl1 x c e)
    exact⟨v,o,old _ _ ho,hd⟩
  . exact I2.hok.fresh hC
  . have e:p=(D,lobj []):=by simpa using hp
    subst e;refine⟨hacc,I2.hok.fresh hD,hDC,fun z => ?_,fun v z=>by cases z⟩
    rcases ZK.mp (I2.stkSub D z) with z | z
    . exact absurd (Zh I2.lt (by rw[<-z];exact hD)) (ZJ _)
    . exact I2.nofs hD z
  . show(List.replicate ts.length none++σ).length=(ts++N2).length
    rw[Zo,Zo,ZI,I2.len,hlN hout]
theorem zdf(I2:Inv X pins σ H2 s₂)(f2:∀b∈fp,FpOk X pins H2 b)(hD:s₂.heap.objs.size<=D){σ':St}{H':Hp}{s':Shared}{its:List Value}{ys:List V}{pl:List (Addr×Obj)}
    (J:Inv (yc X scope (ts++N2) ⟨cl,C,s₂,H2,fp⟩) pl σ' H' s') (hp:s'.heap.get? D=some (lobj its)) (hn:H' D=none) (hv:Vals ys its) (hz:ys.length<=sizeLine):Inv X pins σ (upd H' D (.lst ys)) s':=by
  have neD:∀b o,s₂.heap.get? b=some o->b≠D:=fun b o e=>Zs (Zh (Heap.lt_size e) hD)
  have neH:∀b o,H2 b=some o->b≠D:=fun b o e=>Zs (Zh (I2.hok.lt e) hD)
  have u:=J.base
  have un:Un (frs X.stack) fp H2 (upd H' D (.lst ys)) s₂.heap s'.heap :=
    ⟨u.keep,u.slot,fun b o e n hx=>by rw[z8 (neD b o e)];exact u.free b o e n hx,u.there,fun b xs e=>by rw[z8 (neH b _ e)];exact u.tups b xs e,fun b o v e=>by rw[z8 (neH b _ e)];exact u.frzs b o v e,
      fun b ps e=>by rw[z8 (neH b _ e)];exact u.tbls b ps e⟩
  have hok:HOk X.prog X.w (upd H' D (.lst ys)) s'.heap:=fun b o e=>by
    by_cases hb:b=D
    . subst hb
      rw[zn]at e;cases e;exact⟨hz,its,its.length,hv,hp⟩
    . rw[z8 hb]at e
      exact(J.hok b o e).stay (fun c v _ q=>q) (fun c q=>by rw[z8 (w5 q hn)];exact q) fun c xs q=>by rw[z8 (w5 q hn)];exact q
  exact I2.call' (ch:=fp) J.os un hok J.bare fun b hb=>by
    obtain⟨f0,f1,f3,f4,f5,f6⟩:=f2 b hb;exact⟨f4,f1,f5,f6⟩
theorem ad{E:Value->Shared->Prop}{tg elt iter:Expr}{ifs:List Expr}{pos:Pos}{it:Addr}{tn:Nat->Heap->Prop}{J:It}{g:Dyn->TG}{tt:Dyn->TT}{te:Dyn->TE}{RR:Value->Addr->Result->Shared->Prop}{Fin:List V->Hp->Prop}
    (I2:Inv X pins σ H2 s₂) (hc:X.calm=true) (T:Turn X.prog X.w X.K tg J fp it tn) (st:tn 0 s₂.heap) (f2:∀b∈fp,FpOk X pins H2 b) (hkind:scope.kind=.function) (hown:nw scope.names=true) (hfree:ox scope.names X.env=true) (hout:vv scope.names N2 X.N=true)
    (hcl1:∀x c,cl.lookup x=some c->X.env.cells.lookup x=some c) (hcl2:∀y∈scope.names,y.2=.free->∃c,cl.lookup y.1=some c)
    (hg:∀d,PG (yc X scope (ts++N2) d) tg (g d)) (ht:∀d,PTs (yc X scope (ts++N2) d) ifs (tt d)) (he:∀d,PE (yc X scope (ts++N2) d) elt (te d))
    (hW:∀d,ra J σ ts.length (g d) (tt d) (te d) H2 Fin)
    (hRR:∀D C s' H' ys,s₂.heap.objs.size<=C->C≠D->Inv X pins σ (upd H' D (.lst ys)) s'->H' D=none->H' C=none->(∃m,s'.heap.Ns C m)->ys.length<=sizeLine->Fin ys H'->RR (.ref D) C (.ok .next) s') :
    wpAny (model X.prog X.w) X.A (newList []) (fun acc s₃=>wpAny (model X.prog X.w) X.A (newFunctionEnv scope X.env.globals cl [] X.env.qual none .none (some X.env)) (fun cenv s₄ =>
      codeAny (model X.prog X.w) X.A (.compStart (.ListComp elt [⟨tg,iter,ifs,0⟩] scope pos) 0 (.ref it) acc { cenv with scope:=relabel scope X.env }) (RR acc cenv.locals) s₄) E s₃) E s₂:=by
  refine wpAny_newObj_type (wpAny_newFunctionEnv (j5 hown) (by intro y hy;simp at hy) (fun h₁ hns₁ hsb₁ => ?_) hkind);dsimp only at hns₁ hsb₁ ⊢;generalize hH2:s₂.heap.push { cls:=.type "list", dict:=none,data:=.seq ([]:List Value).toArray }=HP at hns₁ hsb₁ ⊢;have hC:HP.objs.size=s₂.heap.objs.size+1:=by rw[<-hH2,Heap.size_push]
  have hDC:s₂.heap.objs.size≠HP.objs.size:=by rw[hC];exact Zs (Yr _)
  have hCle:s₂.heap.objs.size<=HP.objs.size:=by rw[hC];exact YN _
  have below:∀b,b<s₂.heap.objs.size->b≠HP.objs.size/\b≠s₂.heap.objs.size:=fun b hb=>⟨by rw[hC];exact Zs (YA hb),Zs hb⟩
  have old:∀b o,s₂.heap.get? b=some o->h₁.get? b=some o:=fun b o e=>hsb₁.extBut b o (below b (Heap.lt_size e)).1 (Heap.get?_push_of_some _ (hH2▸Heap.get?_push_of_some _ e))
  have hacc:h₁.get? s₂.heap.objs.size=some (lobj []):=hsb₁.extBut _ _ hDC (Heap.get?_push_of_some _ (hH2▸Heap.get?_push_size _ rfl))
  have flt:∀b∈fp,b<s₂.heap.objs.size:=fun b hb=>by
    obtain⟨o,e,_⟩:=T.obj _ _ st b hb;exact Heap.lt_size e
  generalize hDD:s₂.heap.objs.size=D at *;generalize hCC:HP.objs.size=C at *;have hDle:s₂.heap.objs.size<=D:=YY hDD;have I4:=fun(tk:Nat)=>cj (ts:=ts) (D:=D) (C:=C) (tk:=tk) I2 hc (fun b hb=>⟨f2 b hb,by rw[hDD];exact flt b hb⟩) hkind hown hfree hout hcl1 hcl2 (by rw[hDD];exact hCle) hDC hDle hns₁ old hacc
  generalize hd:(⟨cl,C,s₂,H2,fp⟩:Dyn)=d at *;obtain⟨W,⟨m0,w0⟩,turn⟩:=hW d
  have Xs:∀{pl:List (Addr×Obj)} {H':Hp},(∀b∈fp,H' b=none)->(∀p∈pl,p.1=D)->∀b∈fp,FpOk (yc X scope (ts++N2) d) pl H' b:=fun {pl H'} hn hp b hb=>by
    subst hd;obtain⟨f0,f1,f3,f4,f5,f6⟩:=f2 b hb;refine⟨hn b hb,(below b (flt b hb)).1,fun z => ?_,.inl hb,fun x c e=>f5 x c (hcl1 x c e),fun p hp' => ?_⟩
    . rcases ZK.mp (I2.stkSub b z) with z | z
      . exact f1 z
      . exact f3 z
    . rw[hp p (by simpa using hp')]
      exact Ne.symm (below b (flt b hb)).2
  have loop:∀s₃:Shared,s₃={ s₂ with heap:=h₁,toks:=s₂.toks+([]:List (Str×Value)).length } ->
      codeAny (model X.prog X.w) X.A (.compLoop (.ListComp elt [⟨tg,iter,ifs,0⟩] scope pos) 0 (.ref it) (.ref D) (compEnvC scope cl C X.env)) (RR (.ref D) C) s₃:=by
    rintro s₃ rfl
    refine zd3 (fun n s'=>∃i ys H' its,Inv (yc X scope (ts++N2) d) [(D,lobj its)] (List.replicate ts.length none++σ) H' s'/\tn i s'.heap/\(∀b∈fp,H' b=none)/\Vals ys its/\W i n ys H') ?_ m0
      ⟨0,[],H2,[],I4 _,T.keep _ _ _ st fun b _ o e=>old b o e,fun b hb=>(f2 b hb).1,.nil,w0⟩
    rintro n s3 ⟨i,ys,H3,its,I3,st3,fr3,hv3,w3⟩
    obtain⟨hlen,tr⟩:=turn i n ys H3 w3
    have one:∀p∈[(D,lobj its)],p.1=D:=fun p hp=>by
      have e:p=(D,lobj its):=by simpa using hp
      rw[e]
    have eenv:(yc X scope (ts++N2) d).env=compEnvC scope cl C X.env:=by subst hd;rfl
    rcases tr with ⟨stop,fin⟩ | ⟨go,N,hN,step⟩
    . refine thn (T.done (yc X scope (ts++N2) d) rfl rfl rfl rfl i _ s3 _ H3 (fun _ _=>False) I3 (Xs fr3 one) st3 stop) fun r s4 ⟨hr,J4⟩ => ?_
      subst hr
      show RR (.ref D) C (.ok .next) s4
      obtain⟨pe,pn,_⟩:=J4.pin (D,lobj its) (by simp);have fC:H3 C=none:=by have:=J4.free;rw[eenv]at this;exact this
      have nC:∃m,s4.heap.Ns C m:=by
        obtain⟨m,z,_⟩:=J4.loc;rw[eenv]at z;exact⟨m,z⟩
      subst hd;exact hRR D C s4 H3 ys hCle (Ne.symm hDC) (zdf I2 f2 hDle J4 pe pn hv3 hlen) pn fC nC hlen fin
    . refine thn (T.item (yc X scope (ts++N2) d) rfl rfl rfl rfl i _ s3 _ H3 (fun _ _=>False) I3 (Xs fr3 one) st3 go) fun r s4 ⟨u,hr,h4⟩ => ?_
      subst hr;refine thn h4 fun _ s5 ⟨x,H5,I5,r5,y5,st5,fr5⟩ => ?_
      have I5':=I5.pinned (Xs fr5 one) (T.obj _ _ st5);rw[<-eenv];refine thn (hg d _ s5 _ H5 x u _ I5' r5 (step x H5 y5)) fun _ s6 ⟨σ6,H6,I6,hdrop,q6⟩ => ?_
      have back:∀{ys':List V} {its':List Value} {H':Hp} {s':Shared} {pl:List (Addr×Obj)},Inv (yc X scope (ts++N2) d) ([(D,lobj its')]++pl) σ6 H' s'->Inv (yc X scope (ts++N2) d) [(D,lobj its')] (List.replicate ts.length none++σ) H' s':=fun {ys' its' H' s' pl} I'=>by
        have hl:σ6.length=(ts++N2).length:=I'.len;refine(I'.pins_of (pins':=[(D,lobj its')]) fun p hp=>I'.pin p (Zu _ (Yg _ hp))).weak ?_ ?_
        . rw[hl];exact I3.len
        . intro j v e
          by_cases hj:j<ts.length
          . rw[Zg (by simpa using hj),Yl]at e
            split at e <;> cases e
          . have hj':ts.length<=j:=ZD.mp hj
            rw[Zf (by simpa using hj'),ZI,<-hdrop,ZQ]at e;rw[show ts.length+(j-ts.length)=j by omega]at e;exact e
      refine thn (ht d _ s6 σ6 H6 _ I6 q6) fun b s7 ⟨H7,I7,q7⟩ => ?_
      have pinsOf:∀{its':List Value} {H':Hp} {s':Shared},Inv (yc X scope (ts++N2) d) ([(D,lobj its')]++jg fp s5.heap) σ6 H' s'->(∀b∈fp,∀o,s5.heap.get? b=some o->s'.heap.get? b=some o)/\∀b∈fp,H' b=none:=fun {its' H' s'} I'=>by
        refine⟨fun b hb o e=>(I'.pin (b,o) (Zu _ (Zu _ (ul hb e)))).1,fun b hb => ?_⟩;obtain⟨o,e,_⟩:=T.obj _ _ st5 b hb;exact(I'.pin (b,o) (Zu _ (Zu _ (ul hb e)))).2.1
      cases b with
      | false =>
        have q7':N ys H7:=by simpa using q7
        obtain⟨m',hm,w7⟩:=hN _ _ q7';obtain⟨k1,k2⟩:=pinsOf I7
        show ∃m,m<n/\_
        exact⟨m',hm,i+1,ys,H7,its,back (ys':=ys) I7,T.keep _ _ _ st5 k1,k2,hv3,w7⟩
      | true =>
        have q7':te d σ6 H7 fun v H4=>N (ys++[v]) H4:=by simpa using q7
        show wpAny _ _ _ _ _ _
        refine thn (he d _ s7 σ6 H7 _ I7 q7') fun y s8 ⟨v,H8,I8,r8,n8⟩ => ?_
        obtain⟨m',hm,w8⟩:=hN _ _ n8;obtain⟨k1,k2⟩:=pinsOf I8;obtain⟨pe,pn,pC,pf,pd⟩:=I8.pin (D,lobj its) (by simp);have hsz:its.toArray.size<=sizeLine:=by rw[Zr,<-hv3.length];exact hlen
        refine append_at (hsz:=hsz) pe fun h9 sb9 e9 => ?_
        have J8:Inv (yc X scope (ts++N2) d) [] σ6 H8 s8:=I8.pins_of fun p hp=>nomatch hp
        have hDs:(yc X scope (ts++N2) d).s₀.heap.objs.size<=D:=by subst hd;exact hDle
        have J9:Inv (yc X scope (ts++N2) d) [] σ6 H8 { s8 with heap:=h9 }:=J8.turned (t':=s8.toks) (it:=D) (fun b o hb e=>sb9.extBut b o hb e) pn pC (.inr hDs)
          (fun x c e=>by
            obtain⟨v',z⟩:=I3.cell x c e;subst hd;obtain⟨v2,z2⟩:=I2.cell x c (hcl1 x c e)
            exact Zs (Zh z2.lt hDle)) (fun p hp=>nomatch hp)
        have e9':h9.get? D=some (lobj (its++[y])):=by
          rw[e9]
          show some ({ cls:=.type "list", data:=.seq (its.toArray.push y) (its.length+1) }:Obj)=some { cls:=.type "list", data:=.seq (its++[y]).toArray (its++[y]).length }
          rw[Zo,Yd,List.push_toArray]
        have J9':Inv (yc X scope (ts++N2) d) ([(D,lobj (its++[y]))]++[]) σ6 H8 { s8 with heap:=h9 }:=J9.pins_of fun p hp=>by
          have e:p=(D,lobj (its++[y])):=by simpa using hp
          subst e;exact⟨e9',pn,pC,pf,fun v z=>by cases z⟩
        refine⟨m',hm,i+1,ys++[v],H8,its++[y],back (ys':=ys) J9',?_,k2,hv3.append (.cons r8 .nil),w8⟩;exact T.keep _ _ _ st5 fun b hb o e=>sb9.extBut b o (below b (flt b hb)).2 (k1 b hb o e)
  exact codeAny_compStart_list (loop _ rfl) (T.self _ 0 _ _ _ (T.keep _ _ _ st fun b _ o e=>old b o e) (loop _ rfl))
end
def zb4(k:Nat)(wi:TI)(g:Dyn->TG)(tt:Dyn->TT)(te:Dyn->TE):TE:=fun σ H Q=>wi σ H fun J H1=>∀d:Dyn,ra J σ k (g d) (tt d) (te d) H1 fun ys H'=>∀l,H' l=none->Q (.ref l) (upd H' l (.lst ys))
theorem yj{X:Cx}{tg elt iter:Expr}{ifs:List Expr}{scope:Scope}{pos:Pos}(ts N2:List Str){wi:TI}{g:Dyn->TG}{tt:Dyn->TT}{te:Dyn->TE}(hc:X.calm=true)(hi:PI X tg iter wi)
    (hg:∀d,PG (yc X scope (ts++N2) d) tg (g d)) (ht:∀d,PTs (yc X scope (ts++N2) d) ifs (tt d)) (he:∀d,PE (yc X scope (ts++N2) d) elt (te d))
    (hkind:scope.kind=.function) (hown:nw scope.names=true) (hfree:ox scope.names X.env=true) (hout:vv scope.names N2 X.N=true)
    (hs:∀x,foldedSetIterable iter X.env x=pure x:=by intro _;rfl):PE X (.ListComp elt [⟨tg,iter,ifs,0⟩] scope pos) (zb4 ts.length wi g tt te):=by
  intro pins s σ H Q I h;obtain⟨cl,hclos,hcl1,hcl2⟩:=ib (scope:=scope) (env:=X.env) fun y hy hf=>I.ok.has y.1 (o9 hfree hy hf)
  rw[eval_ListComp];refine wpAny_comprehension_free (use:=none) rfl hs hclos hkind (k8 hown) (thn (hi pins s σ H _ I h) fun v s1 h1=>thn h1 fun itv s2 h2 => ?_);obtain⟨it,fp,tn,J,H2,e,I2,T,st2,f2,hW⟩:=h2;subst e;refine ad (RR:=fun acc C=>compPost (model X.prog X.w) X.A X.xe none (EP X pins σ Q) acc C) I2 hc T st2 f2 hkind hown hfree hout hcl1 hcl2 hg ht he hW ?_;intro D C s' H' ys hC hCD I' hD hCn hNs hl fin;obtain⟨m,hm⟩:=hNs;refine⟨m,hm,fun h' sb => ?_⟩
  have I'':Inv X pins σ (upd H' D (.lst ys)) { s' with heap:=h' }:=by
    refine I'.turned (t':=s'.toks) (it:=C) (fun b o hb e=>sb.extBut b o hb e) (by rw[z8 hCD];exact hCn) (Yb (Zh I2.lt hC)) (.inr (Zd I2.sz hC)) (fun x c e => ?_) fun p hp => ?_
    . obtain⟨v,q⟩:=I2.cell x c e
      exact Zs (Zh q.lt hC)
    . exact Zs (Zh (Heap.lt_size (I2.pin p hp).1) hC)
  exact⟨.ref D,_,I'',rfl,fin D hD⟩
def zfw(i:Nat)(te:TE):TS:=fun D σ H=>te σ H fun x H1=>D.nx (σ.set i (some x)) H1
theorem aj{X:Cx}{tg elt iter:Expr}{ifs:List Expr}{scope:Scope}{pos spos py:Pos}{i:Nat}{y:Str}(ts N2:List Str){wi:TI}{g:Dyn->TG}{tt:Dyn->TT}{te:Dyn->TE}(hN:X.N.Nodup)(hi':X.N[i]? = some y)(hy:X.env.scope.names.lookup y=some .local)(hc:X.calm=true)(hi:PI X tg iter wi)
    (hg:∀d,PG (yc X scope (ts++N2) d) tg (g d)) (ht:∀d,PTs (yc X scope (ts++N2) d) ifs (tt d)) (he:∀d,PE (yc X scope (ts++N2) d) elt (te d))
    (hkind:scope.kind=.function) (hown:nw scope.names=true) (hfree:ox scope.names X.env=true) (hout:vv scope.names N2 X.N=true)
    (hsw:swapsWith (.ListComp elt [⟨tg,iter,ifs,0⟩] scope pos) (some (.Name y py)) spos.line X.env=pure true)
    (hs:∀x,foldedSetIterable iter X.env x=pure x:=by intro _;rfl):PS X (.Assign [.Name y py] (.ListComp elt [⟨tg,iter,ifs,0⟩] scope pos) spos) (zfw i (zb4 ts.length wi g tt te)):=by
  intro pins s σ H D0 I h;obtain⟨cl,hclos,hcl1,hcl2⟩:=ib (scope:=scope) (env:=X.env) fun z hz hf=>I.ok.has z.1 (o9 hfree hz hf)
  rw[exec_Assign_Name_used _ _ _ _ hsw];refine wpAny_bind (wpAny_standAt (wpAny_bind ?_))
  show wpAny _ X.A (do let _ <-comprehension (.ListComp elt [⟨tg,iter,ifs,0⟩] scope pos) scope X.env _ (newList []) false (eval iter X.env) (some (assign (.Name y py) X.env))) _ _ s
  refine wpAny_bind (wpAny_mono (wpAny_comprehension_free (use:=some (assign (.Name y py) X.env)) (Q:=fun _ s'=>SP X pins D0 .next s') rfl hs hclos hkind (k8 hown)
    (thn (hi pins s σ H _ I h) fun v s1 h1=>thn h1 fun itv s2 h2 => ?_)) (fun _ s' hq=>wpAny_pure (wpAny_pure hq)) fun _ _ e=>e)
  obtain⟨it,fp,tn,J,H2,e,I2,T,st2,f2,hW⟩:=h2;subst e;refine ad (RR:=fun acc C=>compPost (model X.prog X.w) X.A X.xe (some (assign (.Name y py) X.env)) (fun _ s'=>SP X pins D0 .next s') acc C) I2 hc T st2 f2 hkind hown hfree hout hcl1 hcl2 hg ht he hW ?_;intro D C s' H' ys hC hCD I' hD hCn hNs hl fin;obtain⟨m,hm⟩:=hNs
  show wpAny _ _ _ _ _ _
  have hcl:C≠X.env.locals:=Yb (Zh I2.lt hC)
  have hcc:∀x c,X.env.cells.lookup x=some c->c≠C:=fun x c e=>by
    obtain⟨v,q⟩:=I2.cell x c e;exact Zs (Zh q.lt hC)
  refine wpAny_assign_Name (il I' hN hi' (.inl hy) (v:=.ref D) (u:=.ref D) rfl (fun s'' I'' ⟨a,sb,ha⟩ => ?_) (.inr hy))
  have haC:C≠a:=by
    rcases ha with z | z
    . rw[z];exact hcl
    . exact Ne.symm (hcc y a z)
  refine⟨m,hm.sameBut sb haC,fun h' sb' => ?_⟩
  have I3:Inv X pins (σ.set i (some (.ref D))) (upd H' D (.lst ys)) { s'' with heap:=h' }:=by
    refine I''.turned (t':=s''.toks) (it:=C) (fun b o hb e=>sb'.extBut b o hb e) (by rw[z8 hCD];exact hCn) hcl (.inr (Zd I2.sz hC)) hcc fun p hp => ?_
    exact Zs (Zh (Heap.lt_size (I2.pin p hp).1) hC)
  exact⟨_,_,I3,fin D hD⟩
section
variable{σ:St}{k:Nat}{g:TG}{tt:TT}{te:TE}{H1:Hp}{Fin:List V->Hp->Prop}
theorem qi{lo:Int}{n:Nat}(Pv:Nat->List V->Hp->Prop)(h0:Pv 0 [] H1)(hz:∀i ys H,i<=n->Pv i ys H->ys.length<=sizeLine)
    (hs:∀i ys H,i<n->Pv i ys H->g (.int (lo+i)) (List.replicate k none++σ) H fun σ2 H2=>σ2.drop k=σ/\tt σ2 H2 fun b H3=>if b=true then te σ2 H3 fun v H4=>Pv (i+1) (ys++[v]) H4 else Pv (i+1) ys H3)
    (hd:∀ys H,Pv n ys H->Fin ys H):ra (Itr lo n) σ k g tt te H1 Fin:=by
  refine⟨fun i m ys H=>m=n-i/\i<=n/\Pv i ys H,⟨n,by simp,ZE _,h0⟩,?_⟩
  rintro i m ys H ⟨rfl,hi,p⟩
  refine⟨hz i ys H hi p,?_⟩
  by_cases hlt:i<n
  . refine .inr ⟨hlt,Pv (i+1),fun ys' H' p'=>⟨n-(i+1),by omega,rfl,hlt,p'⟩,fun x H' y => ?_⟩
    obtain⟨e,y⟩:=y;subst e y;exact hs i ys _ hlt p
  . have e:i=n:=by omega
    subst e;exact .inl ⟨Zm _,hd ys H p⟩
theorem ym{K:Fg}{a:Addr}{xs:List V}(Pv:Nat->List V->Hp->Prop)(h0:Pv 0 [] H1)(hz:∀i ys H,i<=xs.length->Pv i ys H->ys.length<=sizeLine/\SqL K H a xs)
    (hs:∀i x ys H,xs[i]? = some x->Pv i ys H->g x (List.replicate k none++σ) H fun σ2 H2=>σ2.drop k=σ/\tt σ2 H2 fun b H3=>if b=true then te σ2 H3 fun v H4=>Pv (i+1) (ys++[v]) H4 else Pv (i+1) ys H3)
    (hd:∀ys H,Pv xs.length ys H->Fin ys H):ra (Itl K a) σ k g tt te H1 Fin:=by
  refine⟨fun i m ys H=>m=xs.length-i/\i<=xs.length/\Pv i ys H,⟨xs.length,by simp,ZE _,h0⟩,?_⟩
  rintro i m ys H ⟨rfl,hi,p⟩
  have q:=(hz i ys H hi p).2;refine⟨(hz i ys H hi p).1,?_⟩
  by_cases hlt:i<xs.length
  . refine .inr ⟨⟨xs,xs[i],q,by simp[hlt]⟩,Pv (i+1),fun ys' H' p'=>⟨xs.length-(i+1),by omega,rfl,hlt,p'⟩,fun x H' y => ?_⟩
    obtain⟨e,y⟩:=y;subst e;exact hs i x ys _ (y xs q) p
  . have e:i=xs.length:=by omega
    subst e;exact .inl ⟨⟨xs,q,Zm _⟩,hd ys H p⟩
end
end L2
namespace L2
open PySem PySem.Spec PyProof.Rows
theorem zc4{xs:List V}{us:List Value}(r:Vals xs us){j:Nat}(h:j<us.length):∃x,xs[j]? = some x/\RelV x us[j]:=by
  have hl:=r.length;have hj:j<xs.length:=by omega
  obtain⟨u,hu,rx⟩:=r.get (i:=j) (x:=xs[j]) (by simp[hj]);refine⟨xs[j],by simp[hj],?_⟩;have:us[j]? = some us[j]:=by simp[h]
  rw[this]at hu;cases hu;exact rx
section
variable{X:Cx}{pins:List (Addr×Obj)}{σ:St}{H:Hp}{s:Shared}{A:Around}{a b:Addr}
end
section
variable{X:Cx}{pins:List (Addr×Obj)}{σ:St}{H:Hp}{s:Shared}{A:Around}{a b:Addr}
end
def kit0(T1 T2:String):Option Bool:=if (Value.type T1==Value.type T2)=true then some true else if PySem.W.kitMeta T2=true then(fastBuiltinMro T1).map (·.contains (Value.type T2)) else none
theorem zjr(K:Fg)(T1 T2:String):PySem.W.kitOne K (.type T1) (.type T2)=kit0 T1 T2:=rfl
section
variable{X:Cx}
theorem xv:w9 X (.builtin "isinstance") (fun xs H Q=>∃x T T1 b,xs=[x,.ty T]/\TyOf X.K H x (.type T1)/\kit0 T1 T=some b/\Q (.bl b) H):=by
  intro pins s σ H xs us Q I r h;obtain⟨x,T,T1,b,rfl,ty,e,q⟩:=h;obtain⟨u,v,rfl,rx,ry⟩:=Vals.two r;cases ry;exact zir I rx ty ((zjr X.K T1 T).trans e) fun tk=>⟨.bl b,H,I.tok _,rfl,q⟩
theorem t9 {x:Str} {T:String} {pos:Pos} (hg:Gl X x) (hm:X.mg x=none) (hv:bootBuiltins x=some (.type T)) (hn:x ≠ "__name__" := by decide) (hd:(x==("__debug__" : Str))=false:=by decide):PE X (.Name x pos) (tC (.ty T)) :=
  zkt hg hm hv rfl hn hd
end
theorem xi:bootBuiltins "len" = some (.builtin "len"):=by decide +kernel
theorem yk:bootBuiltins "isinstance" = some (.builtin "isinstance"):=by decide +kernel
theorem zia:bootBuiltins "max" = some (.builtin "max"):=by decide +kernel
theorem ll:bootBuiltins "all" = some (.builtin "all"):=by decide +kernel
theorem zhg:bootBuiltins "abs" = some (.builtin "abs"):=by decide +kernel
theorem zdu:bootBuiltins "int" = some (.type "int"):=by decide +kernel
theorem zk0:bootBuiltins "bool" = some (.type "bool"):=by decide +kernel
theorem ml:bootBuiltins "list" = some (.type "list"):=by decide +kernel
theorem sm:bootBuiltins "tuple" = some (.type "tuple"):=by decide +kernel
theorem mv:bootBuiltins "str" = some (.type "str"):=by decide +kernel
theorem zer:bootBuiltins "dict" = some (.type "dict"):=by decide +kernel
theorem bt_set:bootBuiltins "set" = some (.type "set"):=by decide +kernel
theorem zh1:bootBuiltins "zip" = some (.type "zip"):=by decide +kernel
structure zc(K:Fg)(mg:Str->Option Value)(name:Str)(st:Stmt)(ps:List Str):Prop where
  ex:∃f fd,mg name=some (.ref f)/\Fun K name name st f fd/\Binds K fd ps []
structure FnAt(P:Program)(w:World)(K:Fg)(mg:Str->Option Value)(base:Heap)(name:Str)(k:Nat)(ps:List Str)(sp:Sp):Prop where
  ex:∃f fd,mg name=some (.ref f)/\PySem.W.keepIn K (.ref f)=true/\Binds K fd ps []/\FnOk P w K mg base CX0 k f fd ps sp
theorem FnAt.of{P:Program}{w:World}{K:Fg}{mg:Str->Option Value}{base:Heap}{name:Str}{st:Stmt}{N ps:List Str}{k:Nat}{sp:Sp}(D:zc K mg name st ps)(S:zq N ps (zf st))(len:∀vs H Q E,sp vs H Q E->vs.length=ps.length)
    (hbody:∀(f:Addr) (cdv:Value) (A:Around) (outer:List Env) (s:Shared) (H:Hp) (vs:List V) (Q:VK) (E:XK),Room k (A.deeper (envOfC name (zf st) s.heap.objs.size f cdv))->sp vs H Q E ->
      ∃t,PSs (cxOf CX0 P w K mg base N name (zf st) f cdv A outer s H E).nox (yg st) t/\t { nx:=fun _ H'=>Q .non H',rt:=Q } (start N vs) H):FnAt P w K mg base name (k+1) ps sp:=by
  obtain⟨f,fd,hm,F,hb⟩:=D.ex;exact⟨f,fd,hm,F.kp,hb,F.ok S len (hbody f)⟩
theorem def_mk{K:Fg}{h:Heap}{mg:Str->Option Value}(X:K.In h)(G:h.Ns mainGlobals mg){name:Str}{st:Stmt}{f:Addr}{oc:Value}{od an:Option Addr}{osl:Array (Option Value)}{kV doc pm cdv ct:Value}{ps:List Str}
    (a:PySem.W.nsIn K mainGlobals name=some (some (.ref f))) (l:K.lookup f=some ⟨oc,od,.func (PySem.W.fnOf name name (wx st) (yg st) (zf st) .none kV doc pm an cdv ct),osl⟩)
    (c:PySem.W.codeIn K cdv name=true) (k:PySem.W.keepIn K (.ref f)=true)
    (hb:∀(kV doc pm:Value) (an:Option Addr) (cdv ct:Value) (us:List Value),us.length=ps.length->bindArgs (PySem.W.fnOf name name (wx st) (yg st) (zf st) .none kV doc pm an cdv ct) ⟨us,[]⟩=pure (ps.zip us)):zc K mg name st ps :=
  ⟨f,_,PySem.W.mg_of X G a,je l c k,(je (st:=st) l c k).binds hb⟩
section
variable{X:Cx}{x:Str}{k:Nat}{ps:List Str}{sp:Sp}{p pos:Pos}{e:Expr}{es:List Expr}{t:TA}
theorem zj (F:FnAt X.prog X.w X.K X.mg X.base x k ps sp) (hr:Room k X.A) (hg:Gl X x) (ha:PA X (e::es) t) (hdb:(x==("__debug__" : Str))=false:=by decide) (he:starEach (e::es) X.env=(false,eval e X.env)::starEach es X.env:=by rfl)
    (hpl:(backTo pos (starEach es X.env)).any (·.1)=false:=by rfl):PE X (.Call (.Name x p) (e::es) [] pos) (zb5 sp [] E0 t):=by
  obtain⟨f,fd,hm,hk,hb,G⟩:=F.ex;exact zfe G hr hg hm hk hb .nil pass0 ha hdb he hpl
end
theorem cxK{CX:CXT}{P:Program}{w:World}{K:Fg}{mg:Str->Option Value}{base:Heap}{N:List Str}{qual:Str}{scope:Scope}{f:Addr}{cd:Value}{A:Around}{outer:List Env}{s:Shared}{H:Hp}{E:XK}:(cxOf CX P w K mg base N qual scope f cd A outer s H E).K=K:=rfl
section
variable{D:Ends}{σ:St}{H:Hp}{Q:VK}{QT:Bool->Hp->Prop}{QA:List V->Hp->Prop}{QS:St->Hp->Prop}{R:It->Hp->Prop}{a b c:TE}{s t:TS}{tt uu:TT}{ta tr:TA}{g:TG}{i:Nat}{v x y z:V}{r r':R2}{wi:TI}
theorem e_var:tVar i σ H Q=∃v,σ[i]? = some (some v)/\Q v H:=rfl
theorem e_C:tC v σ H Q=Q v H:=rfl
theorem e_op:tOp r a b σ H Q=a σ H fun x H1=>b σ H1 fun y H2=>r x y H2 Q:=rfl
theorem e_un{u:V->Hp->VK->Prop}:tUn u a σ H Q=a σ H fun x H1=>u x H1 Q:=rfl
theorem e_rI{C:Int->Int->Prop}{f:Int->Int->V}:rI C f x y H Q=∃i j,x=.int i/\y=.int j/\C i j/\Q (f i j) H:=rfl
theorem e_rI0{f:Int->Int->V}:rI0 f x y H Q=∃i j,x=.int i/\y=.int j/\Q (f i j) H:=rfl
theorem e_rU{f:Int->V}:rU f x H Q=∃i,x=.int i/\Q (f i) H:=rfl
theorem e_rEq:rEq x y H Q=(scal x y=true/\Q (.bl (decide (x=y))) H):=rfl
theorem e_rNe:rNe x y H Q=(scal x y=true/\Q (.bl (!decide (x=y))) H):=rfl
theorem e_ixL{K:Fg}:rIxL K x y H Q=∃p xs i v,x=.ref p/\y=.int i/\SqL K H p xs/\atI xs i=some v/\Q v H:=rfl
theorem e_ixT{K:Fg}:rIxT K x y H Q=∃p xs i v,x=.ref p/\y=.int i/\SqT K H p xs/\atI xs i=some v/\Q v H:=rfl
theorem e_set{o i v:V}{Q:Hp->Prop}:rSetL o i v H Q=∃p xs k j,o=.ref p/\i=.int k/\H p=some (.lst xs)/\ixN xs.length k=some j/\Q (upd H p (.lst (xs.set j v))):=rfl
theorem e_cat:rCat x y H Q=∃l b xs zs,x=.ref l/\y=.ref b/\H l=some (.lst xs)/\H b=some (.lst zs)/\xs.length+zs.length<=sizeLine/\∀p,H p=none->Q (.ref p) (upd H p (.lst (xs++zs))):=rfl
theorem e_test:zf5 a σ H QT=a σ H fun x H'=>∃k,x=.bl k/\QT k H':=rfl
theorem e_B:tB a σ H QT=a σ H fun x H1=>∃c,x=.bl c/\QT c H1:=rfl
theorem e_and:tAnd tt uu σ H QT=tt σ H fun c H1=>if c=true then uu σ H1 QT else QT false H1:=rfl
theorem e_or:tOr tt uu σ H QT=tt σ H fun c H1=>if c=true then QT true H1 else uu σ H1 QT:=rfl
theorem e_not:tNot tt σ H QT=tt σ H fun c H1=>QT (!c) H1:=rfl
theorem e_andV:tAndV a b σ H Q=a σ H fun x H1=>∃c,x=.bl c/\if c=true then b σ H1 Q else Q (.bl false) H1:=rfl
theorem e_orV:tOrV a b σ H Q=a σ H fun x H1=>∃c,x=.bl c/\if c=true then Q (.bl true) H1 else b σ H1 Q:=rfl
theorem e_notV:tNotV a σ H Q=a σ H fun x H1=>∃c,x=.bl c/\Q (.bl (!c)) H1:=rfl
theorem e_ifE:tIf tt a b σ H Q=tt σ H fun c H1=>if c=true then a σ H1 Q else b σ H1 Q:=rfl
theorem e_all:tAll σ H QT=QT true H:=rfl
theorem e_next:tNext D σ H=D.nx σ H:=rfl
theorem e_seq:tSeq s t D σ H=s { D with nx:=t D } σ H:=rfl
theorem e_brk:tBreak D σ H=D.bk σ H:=rfl
theorem e_cnt:tCont D σ H=D.ct σ H:=rfl
theorem e_drop:tDrop a D σ H=a σ H fun _ H1=>D.nx σ H1:=rfl
theorem e_ret:tRet a D σ H=a σ H D.rt:=rfl
theorem e_retN:tRetN D σ H=D.rt .non H:=rfl
theorem e_ifS:tIfS tt s t D σ H=tt σ H fun b H1=>if b=true then s D σ H1 else t D σ H1:=rfl
theorem e_asg:tAsg a g D σ H=a σ H fun x H1=>g x σ H1 D.nx:=rfl
theorem zkp:zb1 i v σ H QS=QS (σ.set i (some v)) H:=rfl
theorem e_setC:zfw i a D σ H=a σ H fun x H1=>D.nx (σ.set i (some x)) H1:=rfl
theorem e_augS{tget:V->V->Hp->VK->Prop}{tip:TIp}{tset:TSet}:tAugS a b c tget tip tset D σ H=a σ H fun o H1=>b σ H1 fun i H2=>tget o i H2 fun x H3=>c σ H3 fun y H4=>tip x y H4 fun z H5=>tset o i z H5 fun H6=>D.nx σ H6:=rfl
theorem e_ipI{f:Int->Int->Int}:ipI f x y H Q=∃i j,x=.int i/\y=.int j/\Q (.int (f i j)) H:=rfl
theorem e_nil:tNil σ H QA=QA [] H:=rfl
theorem e_cons:zft a ta σ H QA=a σ H fun x H1=>ta σ H1 fun xs H2=>QA (x::xs) H2:=rfl
theorem e_tup:tTup ta σ H Q=ta σ H fun xs H1=>xs.length<=sizeLine/\∀p,H1 p=none->Q (.ref p) (upd H1 p (.tup xs)):=rfl
theorem e_lst:tLst ta σ H Q=ta σ H fun xs H1=>xs.length<=sizeLine/\∀p,H1 p=none->Q (.ref p) (upd H1 p (.lst xs)):=rfl
theorem e_call{sp:Sp}{E:XK}:zb5 sp [] E ta σ H Q=ta σ H fun vs H1=>sp (vs++[]) H1 Q E:=rfl
theorem e_CB{u:List V->Hp->VK->Prop}:tCB u ta σ H Q=ta σ H fun vs H1=>u vs H1 Q:=rfl
theorem e_BM{K:Fg}{T:String}{u:V->List V->Hp->VK->Prop}:tBM K T u a ta σ H Q=a σ H fun x H1=>tyV K T x H1/\ta σ H1 fun xs H2=>u x xs H2 Q:=rfl
theorem e_app{vs:List V}:zfk x vs H Q=∃l xs y,x=.ref l/\vs=[y]/\H l=some (.lst xs)/\xs.length<sizeLine/\Q .non (upd H l (.lst (xs++[y]))):=rfl
theorem e_rng1:iRng1 ta σ H R=ta σ H fun vs H1=>∃j:Int,vs=[.int j] /\ -(2^62)<=j/\j<2^62/\R (Itr 0 j.toNat) H1:=rfl
theorem e_rng2:iRng2 ta σ H R=ta σ H fun vs H1=>∃i j:Int,vs=[.int i,.int j]/\(-(2^62)<=i/\i<2^62 /\ -(2^62)<=j/\j<2^62)/\R (Itr i (j-i).toNat) H1:=rfl
theorem e_iL{K:Fg}:iList K a σ H R=a σ H fun x H1=>∃p,x=.ref p/\(∃xs,SqL K H1 p xs)/\R (Itl K p) H1:=rfl
def ForW(J:It)(g:TG)(tb:TS)(D:Ends)(σ:St)(H1:Hp):Prop:=∃W:Nat->Nat->St->Hp->Prop,(∃m,W 0 m σ H1)/\∀i m σ H,W i m σ H ->
  (J.stop i H/\D.nx σ H)\/(J.go i H/\∃N:St->Hp->Prop,(∀σ' H',N σ' H'->∃m',m'<m/\W (i+1) m' σ' H')/\∀x H',J.yld i H x H'->g x σ H' fun σ2 H2=>tb { D with nx:=N,ct:=N,bk:=D.nx } σ2 H2)
theorem e_for:tFor wi g t D σ H=wi σ H fun J H1=>ForW J g t D σ H1:=rfl
theorem e_comp{k:Nat}{g:Dyn->TG}{tt:Dyn->TT}{te:Dyn->TE}:zb4 k wi g tt te σ H Q=wi σ H fun J H1=>∀d:Dyn,ra J σ k (g d) (tt d) (te d) H1 fun ys H'=>∀l,H' l=none->Q (.ref l) (upd H' l (.lst ys)):=rfl
end
end L2
namespace L2
open PySem PySem.Spec PyProof.Rows
section
variable{X:Cx}
theorem ub(hc:X.calm=true):w9 X (.builtin "all") (fun xs H Q=>∃(p:Addr) (bs:List Bool),xs=[.ref p]/\SqL X.K H p (bs.map V.bl)/\Q (.bl (bs.all id)) H):=by
  intro pins s σ H xs us Q I r h;obtain⟨p,bs,rfl,hq,q⟩:=h;obtain⟨u,rfl,rx⟩:=Vals.one r;cases rx;obtain⟨its,rv,pl,hz⟩:=I.list hq;have hlt:p<s.heap.objs.size:=by obtain⟨_,e,_⟩:=pl.isList;exact Heap.lt_size e
  have hlen:its.length=bs.length:=by have:=rv.length;rw[Za]at this;exact this.symm
  refine call_all_walk (wpAny_pyIter_list pl.isList ?_)
  refine⟨s.heap.objs.size,[s.heap.objs.size,p],[s.heap.objs.size],its.toArray.size,_,_,fun i=>(bs[i]?).getD true,rfl,Walks.list (A:=X.A.in1) (I.ok.hd hc) _ p (Zs hlt) its.toArray,
    ⟨⟨_,Heap.get?_push_size _ rfl,rfl,rfl⟩,pl.isList.push _⟩,fun i v s' Q' E' hP hQ => ?_,fun h' tk hk => ?_⟩
  . have hi:its[i]? = some v:=by simpa using hP
    have hil:i<bs.length:=by rw[<-hlen];exact(Zc.mp hi).1
    have e:bs[i]? = some bs[i]:=by simp[hil]
    obtain⟨u,hu,ru⟩:=rv.get (i:=i) (x:=V.bl bs[i]) (by rw[Ze,e];rfl);rw[hi]at hu;cases hu;cases ru;simp only[e,Option.getD_some]at hQ;exact wpAny_truthy_bool hQ
  . have e:((List.range its.toArray.size).all fun i=>(bs[i]?).getD true)=bs.all id:=by
      rw[Zr,hlen];rw[Bool.eq_iff_iff,ZS,ZS]
      constructor
      . intro z b hb
        obtain⟨i,hi,rfl⟩:=Zy hb;have:=z i (ZT.mpr hi)
        simpa[Zb hi] using this
      . intro z i hi
        have hi':=ZT.mp hi;simp only[Zb hi',Option.getD_some];exact z _ (Zl hi')
    rw[e];exact⟨.bl (bs.all id),H,I.kept fun b x e=>hk b x (fun hm=>by rw[ZC.mp hm]at e;exact ZJ _ (Heap.lt_size e)) (Heap.get?_push_of_some _ e),rfl,q⟩
end
def Itz(K:Fg)(a b:Addr):It :=
  ⟨fun i H=>∃xs ys x y,SqL K H a xs/\SqL K H b ys/\xs[i]? = some x/\ys[i]? = some y,
   fun i H v H'=>∃T x y,v=.ref T/\H T=none/\H'=upd H T (.tup [x,y])/\∀xs ys,SqL K H a xs->SqL K H b ys->xs[i]? = some x/\ys[i]? = some y,
   fun i H=>∃xs ys,SqL K H a xs/\SqL K H b ys/\(xs.length<=i\/ys.length<=i)⟩
structure zcz(z TI TO i1 i2:Addr):Prop where
  TIz:TI≠z
  TOz:TO≠z
  i1z:i1≠z
  i2z:i2≠z
  TITO:TI≠TO
  TIi1:TI≠i1
  TIi2:TI≠i2
  TOi1:TO≠i1
  TOi2:TO≠i2
  i12:i1≠i2
def tnZip(z TI TO i1 i2 l1 l2:Addr)(i:Nat)(h:Heap):Prop:=IsZip h z TI TO .none/\IsPair h TI (.ref i1) (.ref i2)/\(∃a b,IsPair h TO a b)/\h.IsListIter i1 l1 i/\h.IsListIter i2 l2 i
theorem za3{z TI TO i1 i2 l1 l2:Addr}{i:Nat}{h:Heap}{xs ys:Array Value}(D:zcz z TI TO i1 i2)(t:tnZip z TI TO i1 i2 l1 l2 i h)(h1:h.IsList l1 xs)(h2:h.IsList l2 ys):ZipApart z TI TO i1 i2 l1 l2:=by
  obtain⟨hz,hTI,⟨a,b,hTO⟩,k1,k2⟩:=t
  have n1:∀{l:Addr} {ws:Array Value},h.IsList l ws->l≠z:=fun {l ws} q e=>by
    obtain⟨o,e1,c,_⟩:=q;subst e;rw[hz]at e1;cases e1;simp at c
  have n2:∀{l:Addr} {ws:Array Value},h.IsList l ws->l≠TO:=fun {l ws} q e=>by
    obtain⟨o,e1,c,_⟩:=q;subst e;rw[hTO]at e1;cases e1;simp at c
  have n3:∀{l j l':Addr} {k:Nat} {ws:Array Value},h.IsListIter j l' k->h.IsList l ws->l≠j:=fun {l j l' k ws} k1 q e=>by
    obtain⟨o,e1,c,_⟩:=q;obtain⟨o',e1',c',_⟩:=k1;subst e;rw[e1']at e1;cases e1;rw[c']at c;simp at c
  exact⟨D.TIz,D.TOz,D.i1z,D.i2z,D.TITO,D.TIi1,D.TIi2,D.TOi1,D.TOi2,D.i12,n1 h1,n2 h1,n3 k1 h1,n3 k2 h1,n1 h2,n2 h2,n3 k1 h2,n3 k2 h2⟩
theorem Inv.turnedLaid{X:Cx}{pins:List (Addr×Obj)}{σ:St}{H:Hp}{s:Shared}{h':Heap}{t':Nat}{ch:List Addr}{T:Addr}{o:HO}(I:Inv X pins σ H s)(hf:∀b∈ch,FpOk X pins H b)
    (k:∀b o,b∉ch->s.heap.get? b=some o->h'.get? b=some o) (hT:s.heap.objs.size<=T) (new:ObjOk X.prog X.w (upd H T o) h' T o):Inv X pins σ (upd H T o) { s with heap:=h',toks:=t' }:=by
  have nch:∀b u,H b=some u->b∉ch:=fun b u e z=>by rw[(hf b z).1]at e;cases e
  have nT:∀b u,H b=some u->b≠T:=fun b u e=>Zs (Zh (I.hok.lt e) hT)
  have nT':∀b u,s.heap.get? b=some u->b≠T:=fun b u e=>Zs (Zh (Heap.lt_size e) hT)
  refine I.step (g':=s.gens) (d':=s.drawn) (ch:=ch) (fun b hb => ?_) (fun b o _ _ hc e _=>k b o hc e) (fun b o _ _ hc e _=>⟨o.slots,k b o hc e⟩) (fun b o _ e n=>by rw[z8 (nT' b o e)];exact n)
    (fun b o hc e=>⟨o,k b o hc e⟩) (fun b xs e=>by rw[z8 (nT b _ e)];exact e) (fun b ob u e=>by rw[z8 (nT b _ e)];exact e) (fun b ps e=>⟨#[],by rw[z8 (nT b _ e),e];simp⟩) (fun m hm => ?_) (fun b u e => ?_) I.bare
  . obtain⟨f0,f1,f2,f3,f4,f5⟩:=hf b hb
    exact⟨f3,f1,f4,f5⟩
  . obtain⟨ob,es,ep,ho,r⟩:=hm
    exact⟨ob,es,ep,k _ ob (fun z=>(hf _ z).2.1 rfl) ho,r⟩
  . by_cases hb:b=T
    . subst hb
      rw[zn]at e;cases e;exact new
    . rw[z8 hb]at e
      refine(I.hok b u e).stay (fun c v hc q=>k c v ?_ q) (fun c q=>by rw[z8 (nT c _ q)];exact q) fun c xs q=>by rw[z8 (nT c _ q)];exact q
      rcases hc with z | z
      . rw[z];exact nch b u e
      . exact nch c _ z
theorem zju{P:Program}{w:World}{K:Fg}{elts:List Expr}{x1:Nat}{pos:Pos}(z TI TO i1 i2 l1 l2:Addr)(D:zcz z TI TO i1 i2) :
    Turn P w K (.Tuple elts x1 pos) (Itz K l1 l2) [z,TI,TO,i1,i2] z (tnZip z TI TO i1 i2 l1 l2) where
  mem:=by simp
  obj:=fun i h st b hb=>by
    obtain⟨hz,hTI,⟨a,b',hTO⟩,⟨o1,e1,c1,d1⟩,⟨o2,e2,c2,d2⟩⟩:=st;simp only[ZK,Zx,or_false]at hb
    rcases hb with rfl | rfl | rfl | rfl | rfl
    . exact⟨_,hz,fun v q=>by cases q⟩
    . exact⟨_,hTI,fun v q=>by cases q⟩
    . exact⟨_,hTO,fun v q=>by cases q⟩
    . exact⟨o1,e1,fun v q=>by rw[d1]at q;cases q⟩
    . exact⟨o2,e2,fun v q=>by rw[d2]at q;cases q⟩
  keep:=fun i h h' st k=>by
    obtain⟨hz,hTI,⟨a,b,hTO⟩,h1,h2⟩:=st;exact⟨k z (by simp) _ hz,k TI (by simp) _ hTI,⟨a,b,k TO (by simp) _ hTO⟩,h1.at fun o e=>k i1 (by simp) o e,h2.at fun o e=>k i2 (by simp) o e⟩
  item:=by
    intro X hP hw hK hc i pins s σ H E I hf st hg;subst hP hw hK;obtain⟨xs,ys,x,y,qa,qb,hx,hy⟩:=hg;obtain⟨us,ru,pu,zu⟩:=I.list qa;obtain⟨vs,rv,pv',zv⟩:=I.list qb;obtain⟨u,hu,rxu⟩:=ru.get hx;obtain⟨v,hv,ryv⟩:=rv.get hy;have A:=za3 D st pu.isList pv'.isList;obtain⟨hz,hTI,⟨a,b,hTO⟩,h1,h2⟩:=id st;refine wpAny_pyNext_zip_item A hz hTI hTO h1 h2 pu.isList pv'.isList (x:=u) (y:=v) (by simpa using hu) (by simpa using hv) fun h' a1 a2 a3 a4 a5 a6 hk => ?_
    have ltT:∀{c o},s.heap.get? c=some o->c≠s.heap.objs.size:=fun e=>Zs (Heap.lt_size e)
    refine⟨_,rfl,wpAny_letOwnedTupleGo_zip (s:={ s with heap:=h' }) a1 fun h'' b1 sb => ?_⟩;have hTz:s.heap.objs.size≠z:=Ne.symm (ltT hz)
    have hf4:∀b∈[z,TO,i1,i2],FpOk X pins H b:=fun b hb=>hf b (by
      simp only[ZK,Zx,or_false]at hb ⊢
      rcases hb with h | h | h | h <;> simp[h])
    have I1:Inv X pins σ (upd H s.heap.objs.size (.tup [x,y])) { s with heap:=h'',toks:=s.toks }:=I.turnedLaid (ch:=[z,TO,i1,i2]) hf4 (fun b o hb e=>by
      simp only[ZK,Zx,or_false,not_or]at hb
      exact sb.extBut b o hb.1 (hk b o hb.1 hb.2.1 hb.2.2.1 hb.2.2.2 e)) (Zm _) ⟨by show 2<=sizeLine;decide,[u,v],.cons rxu (.cons ryv .nil),by
        have e:=sb.extBut _ _ hTz a5
        exact⟨_,e,rfl,_,rfl,rfl⟩⟩
    refine⟨.ref s.heap.objs.size,_,I1,rfl,⟨s.heap.objs.size,x,y,rfl,I.hok.fresh (Zm _),rfl,fun xs' ys' q1 q2 => ?_⟩,?_,fun b hb => ?_⟩
    . rw[I.list_inj q1 qa,I.list_inj q2 qb]
      exact⟨hx,hy⟩
    . exact⟨b1,sb.extBut _ _ A.TIz (hk _ _ A.TIz A.TITO A.TIi1 A.TIi2 hTI),⟨_,_,sb.extBut _ _ A.TOz a2⟩,a3.extBut sb.extBut A.i1z,a4.extBut sb.extBut A.i2z⟩
    . have hb':=(hf b hb).1
      rw[z8 ?_]
      . exact hb'
      . simp only[ZK,Zx,or_false]at hb
        rcases hb with rfl | rfl | rfl | rfl | rfl
        . exact ltT hz
        . exact ltT hTI
        . exact ltT hTO
        . obtain⟨_,e,_⟩:=h1;exact ltT e
        . obtain⟨_,e,_⟩:=h2;exact ltT e
  done:=by
    intro X hP hw hK hc i pins s σ H E I hf st hg;subst hP hw hK;obtain⟨xs,ys,qa,qb,hend⟩:=hg;obtain⟨us,ru,pu,zu⟩:=I.list qa;obtain⟨vs,rv,pv',zv⟩:=I.list qb;have A:=za3 D st pu.isList pv'.isList;obtain⟨hz,hTI,⟨a,b,hTO⟩,h1,h2⟩:=id st;have l1':=ru.length;have l2':=rv.length
    refine wpAny_pyNext_zip_end (I.ok.hd hc) A hz hTI hTO h1 h2 pu.isList pv'.isList (by
      rcases hend with h | h
      . left;simp;omega
      . right;simp;omega) fun h' hk=>⟨rfl,?_⟩
    have nch:∀b u,H b=some u->b∉[z,TO,i1,i2]:=fun b u e q=>by
      have:=(hf b (by simp only[ZK,Zx,or_false]at q ⊢;rcases q with h | h | h | h <;> simp[h])).1;rw[this]at e;cases e
    have k:∀b o,b∉[z,TO,i1,i2]->s.heap.get? b=some o->h'.get? b=some o:=fun b o hb e=>by
      simp only[ZK,Zx,or_false,not_or]at hb;exact hk b o hb.1 hb.2.1 hb.2.2.1 hb.2.2.2 e
    have hf4:∀b∈[z,TO,i1,i2],FpOk X pins H b:=fun b hb=>hf b (by
      simp only[ZK,Zx,or_false]at hb ⊢
      rcases hb with h | h | h | h <;> simp[h])
    exact I.step (g':=s.gens) (d':=s.drawn) (t':=s.toks) (ch:=[z,TO,i1,i2]) (fun b hb=>by
        obtain⟨f0,f1,f2,f3,f4,f5⟩:=hf4 b hb
        exact⟨f3,f1,f4,f5⟩) (fun b o _ _ hc e _=>k b o hc e) (fun b o _ _ hc e _=>⟨o.slots,k b o hc e⟩) (fun b o _ e n=>n)
      (fun b o hc e=>⟨o,k b o hc e⟩) (fun b xs e=>e) (fun b ob u e=>e) (fun b ps e=>⟨#[],by rw[e];simp⟩) (fun m hm=>by
        obtain⟨ob,es,ep,ho,r⟩:=hm
        exact⟨ob,es,ep,k _ ob (fun q=>(hf4 _ q).2.1 rfl) ho,r⟩) (fun b u e=>(I.hok b u e).stay (fun c v hc q=>k c v (by
          rcases hc with r | r
          . rw[r];exact nch b u e
          . exact nch c _ r) q) (fun _ q=>q) fun _ _ q=>q) I.bare
  self:=fun _ _ _ _ _ st h=>wpAny_pyIter_zip st.1 h
def iZip(K:Fg)(ta:TA):TI:=fun σ H R=>ta σ H fun vs H1=>∃a b,vs=[.ref a,.ref b]/\(∃xs,SqL K H1 a xs)/\(∃ys,SqL K H1 b ys)/\R (Itz K a b) H1
theorem pi_zip {X:Cx} {a b:Expr} {ta:TA} {p pos tpos:Pos} {elts:List Expr} {x1:Nat} (hg:Gl X "zip") (hm:X.mg "zip" = none) (ha:PA X [a,b] ta) (hs:starEach [a,b] X.env=[(false,eval a X.env),(false,eval b X.env)]:=by rfl) (hs2:starEach [b] X.env=[(false,eval b X.env)]:=by rfl) :
    PI X (.Tuple elts x1 tpos) (.Call (.Name "zip" p) [a,b] [] pos) (iZip X.K ta):=by
  intro pins s σ H R I h;refine Call_ (ou I hg hm zh1 (PyProof.Rows.callWith_type1 (thn (ha pos pins s σ H _ I h) fun us s1 ⟨vs,H1,I1,r1,q1⟩ => ?_) (by rw[hs,hs2]) (by rw[hs2];rfl)));obtain⟨a,b,e,⟨xs,qa⟩,⟨ys,qb⟩,q⟩:=q1;subst e;obtain⟨u,v,rfl,ru,rv⟩:=Vals.two r1;cases ru;cases rv;obtain⟨its,_,pa,_⟩:=I1.list qa;obtain⟨jts,_,pb,_⟩:=I1.list qb;refine call_zip_2 pa.isList pb.isList fun h' z1 z2 z3 z4 z5 z6 kp => ?_
  refine wpAny_pyIter_zip (s:={ s1 with heap:=h' }) z1 ?_;have I2:Inv X pins σ H1 { s1 with heap:=h' }:=I1.kept (t':=s1.toks) kp;have D:zcz (s1.heap.objs.size+4) (s1.heap.objs.size+2) (s1.heap.objs.size+3) s1.heap.objs.size (s1.heap.objs.size+1):=by constructor <;> (show(_:Nat)≠_;omega)
  refine⟨s1.heap.objs.size+4,[s1.heap.objs.size+4,s1.heap.objs.size+2,s1.heap.objs.size+3,s1.heap.objs.size,s1.heap.objs.size+1],_,_,H1,rfl,I2,zju _ _ _ _ _ a b D,⟨z1,z2,⟨_,_,z3⟩,z4,z5⟩,fun c hc => ?_,q⟩
  have hle:s1.heap.objs.size<=c:=by
    simp only[ZK,Zx,or_false]at hc
    rcases hc with h | h | h | h | h <;> (rw[h];omega)
  exact I1.fpOk hle (I1.hok.fresh hle)
theorem e_zip{K:Fg}{ta:TA}{σ:St}{H:Hp}{R:It->Hp->Prop}:iZip K ta σ H R=ta σ H fun vs H1=>∃a b,vs=[.ref a,.ref b]/\(∃xs,SqL K H1 a xs)/\(∃ys,SqL K H1 b ys)/\R (Itz K a b) H1:=rfl
theorem e_gTup{K:Fg}{n:Nat}{t:TGs}{v:V}{σ:St}{H:Hp}{Q:St->Hp->Prop}:gTup K n t v σ H Q=∃a xs,v=.ref a/\SqT K H a xs/\xs.length=n/\t xs σ H Q:=rfl
theorem e_gNil{vs:List V}{σ:St}{H:Hp}{Q:St->Hp->Prop}:gNil vs σ H Q=(vs=[]/\Q σ H):=rfl
theorem zk8{t:TG}{u:TGs}{vs:List V}{σ:St}{H:Hp}{Q:St->Hp->Prop}:gCons t u vs σ H Q=∃v r,vs=v::r/\t v σ H fun σ' H'=>u r σ' H' Q:=rfl
end L2
namespace L2
open PySem PySem.Spec PyProof.Rows
def eqVs:List V->List V->Bool
  | [],[]=>true
  | x::xs,y::ys=>eqV x y&&eqVs xs ys
  | _,_=>false
theorem cb:∀{xs ys:List V},xs.length=ys.length->((List.range xs.length).all fun j=>eqV (xs.getD j .non) (ys.getD j .non))=eqVs xs ys
  | [],[],_=>rfl
  | [],_::_,h=>by simp at h
  | _::_,[],h=>by simp at h
  | x::xs,y::ys,h=>by
    have ih:=@cb xs ys (by simpa using h);rw[ZL,List.range_succ_eq_map,YT,List.all_map]
    show(eqV x y&&_)=(eqV x y&&eqVs xs ys)
    rw[<-ih];rfl
theorem zdg:∀{xs ys:List V},xs.length≠ys.length->eqVs xs ys=false
  | [],[],h=>by simp at h
  | [],_::_,_=>rfl
  | _::_,[],_=>rfl
  | x::xs,y::ys,h=>by
    have ih:=@zdg xs ys (by simpa using h);unfold eqVs;rw[ih,Bool.and_false]
theorem gf{xs:List V}(h:xs.all xk=true){j:Nat}{x:V}(e:xs[j]? = some x):xk x=true:=ZS.mp h x (Zi e)
theorem zcg{A:Around}{s:Shared}{us vs:List Value}{xs ys:List V}(hu:Vals xs us)(hv:Vals ys vs)(fx:xs.all xk=true)(fy:ys.all xk=true) :
    ∀j (h1:j<us.toArray.size) (h2:j<vs.toArray.size),SeqAt.EqAt A s us.toArray[j] vs.toArray[j] (eqV (xs.getD j .non) (ys.getD j .non)):=by
  intro j h1 h2;have h1':j<us.length:=by simpa using h1
  have h2':j<vs.length:=by simpa using h2
  obtain⟨x,ex,rx⟩:=zc4 hu h1';obtain⟨y,ey,ry⟩:=zc4 hv h2';rw[List.getElem_toArray,List.getElem_toArray,Zk,Zk,ex,ey];exact zg0 rx ry (gf fx ex) (gf fy ey)
section
variable{X:Cx}
end
section
variable{X:Cx}
theorem zl1{xs ys:List V}:(((List.range (min xs.length ys.length)).all fun j=>eqV (xs.getD j .non) (ys.getD j .non))&&xs.length==ys.length)=eqVs xs ys:=by
  by_cases hl:xs.length=ys.length
  . rw[<-hl,YZ,cb hl]
    simp
  . rw[zdg hl,show(xs.length==ys.length)=false by simpa using hl,Bool.and_false]
theorem zg8(hu:X.A.units<cLine):OpR X (compareOp .Eq) (fun x y H Q=>∃(a b:Addr) (xs ys:List V),x=.ref a/\y=.ref b/\SqT X.K H a xs/\SqT X.K H b ys/\xs.all xk=true/\ys.all xk=true/\Q (.bl (eqVs xs ys)) H):=by
  intro pins s σ H x y v u Q I rx ry h;obtain⟨a,b,xs,ys,rfl,rfl,ha,hb,fx,fy,q⟩:=h;cases rx;cases ry;obtain⟨us,r1,p1,z1⟩:=I.tuple ha;obtain⟨vs,r2,p2,z2⟩:=I.tuple hb;have l1:=r1.length;have l2:=r2.length;refine SeqAt.eq_tupleAt (show s.heap.IsTuple a us.toArray from p1) (show s.heap.IsTuple b vs.toArray from p2) hu (zcg (A:=X.A.in1) (s:=s) r1 r2 fx fy) ?_;rw[Zr,Zr,<-l1,<-l2,zl1];exact⟨.bl (eqVs xs ys),H,I,rfl,q⟩
end
theorem e_gSub{to ti:TE}{t:TSet}{v:V}{σ:St}{H:Hp}{Q:St->Hp->Prop}:gSub to ti t v σ H Q=to σ H fun o H1=>ti σ H1 fun i H2=>t o i v H2 fun H3=>Q σ H3:=rfl
theorem e_rep{x y:V}{H:Hp}{Q:VK}:rRep x y H Q=∃l k xs,x=.ref l/\y=.int k/\H l=some (.lst xs) /\ -(2^63)<=k/\k<2^63/\xs.length*k.toNat<=sizeLine/\∀p,H p=none->Q (.ref p) (upd H p (.lst (List.replicate k.toNat xs).flatten)):=rfl
end L2
namespace L2
open PySem PySem.Spec PyProof.Rows
section
variable{σ:St}{k:Nat}{g:TG}{tt:TT}{te:TE}{H1:Hp}{Fin:List V->Hp->Prop}
theorem zjt{K:Fg}{a b:Addr}{xs zs:List V}(Pv:Nat->List V->Hp->Prop)(h0:Pv 0 [] H1)(hz:∀i ys H,i<=min xs.length zs.length->Pv i ys H->ys.length<=sizeLine/\SqL K H a xs/\SqL K H b zs)
    (hs:∀i x z ys H T,xs[i]? = some x->zs[i]? = some z->H T=none->Pv i ys H->g (.ref T) (List.replicate k none++σ) (upd H T (.tup [x,z])) fun σ2 H2=>σ2.drop k=σ/\tt σ2 H2 fun b H3=>if b=true then te σ2 H3 fun v H4=>Pv (i+1) (ys++[v]) H4 else Pv (i+1) ys H3)
    (hd:∀ys H,Pv (min xs.length zs.length) ys H->Fin ys H):ra (Itz K a b) σ k g tt te H1 Fin:=by
  refine⟨fun i m ys H=>m=min xs.length zs.length-i/\i<=min xs.length zs.length/\Pv i ys H,⟨min xs.length zs.length,by simp,ZE _,h0⟩,?_⟩
  rintro i m ys H ⟨rfl,hi,p⟩
  obtain⟨q0,qa,qb⟩:=hz i ys H hi p;refine⟨q0,?_⟩
  by_cases hlt:i<min xs.length zs.length
  . have h1:i<xs.length:=by omega
    have h2:i<zs.length:=by omega
    refine .inr ⟨⟨xs,zs,xs[i],zs[i],qa,qb,by simp[h1],by simp[h2]⟩,Pv (i+1),fun ys' H' p'=>⟨min xs.length zs.length-(i+1),by omega,rfl,hlt,p'⟩,fun x H' y => ?_⟩;obtain⟨T,x',z',rfl,hT,rfl,hy⟩:=y;obtain⟨e1,e2⟩:=hy xs zs qa qb;exact hs i x' z' ys _ T e1 e2 hT p
  . have e:i=min xs.length zs.length:=by omega
    subst e;exact .inl ⟨⟨xs,zs,qa,qb,by omega⟩,hd ys H p⟩
end
theorem e_slL{K:Fg}{x:V}{lo hi:Option Int}{H:Hp}{Q:VK}:rSlL K x lo hi H Q=∃a xs,x=.ref a/\SqL K H a xs/\∀p,H p=none->Q (.ref p) (upd H p (.lst (cutV xs lo hi))):=rfl
theorem e_tSl{r:V->Option Int->Option Int->Hp->VK->Prop}{te:TE}{tl th:TO}{σ:St}{H:Hp}{Q:VK}:tSl r te tl th σ H Q=te σ H fun x H1=>tl σ H1 fun l H2=>th σ H2 fun u H3=>r x l u H3 Q:=rfl
theorem zjk{σ:St}{H:Hp}{Q:Option Int->Hp->Prop}:zet σ H Q=Q none H:=rfl
theorem e_part{t:TE}{σ:St}{H:Hp}{Q:Option Int->Hp->Prop}:tPart t σ H Q=t σ H fun x H1=>∃i,x=.int i/\Q (some i) H1:=rfl
end L2
namespace L2
open PySem PySem.Spec PyProof.Rows
section
variable{σ:St}{H:Hp}{Q:VK}{a b c:TE}{x:V}{vs:List V}{r r':R2}
theorem e_BM0{K:Fg}{T:String}{u:V->List V->Hp->VK->Prop}:tBM0 K T u a σ H Q=a σ H fun x H1=>tyV K T x H1/\u x [] H1 Q:=rfl
theorem zlp:zb9 r r' a b c σ H Q=a σ H fun x H1=>b σ H1 fun y H2=>r x y H2 fun z H3=>∃k,z=.bl k/\(if k=true then c σ H3 fun w' H4=>r' y w' H4 Q else Q (.bl false) H3):=rfl
theorem zlg:tDNewK σ H Q=∀p,H p=none->Q (.ref p) (upd H p (.dK [])):=rfl
theorem e_in{K:Fg}{neg:Bool}{y:V}:rIn K neg x y H Q=∃p xs,y=.ref p/\(SqL K H p xs\/SqT K H p xs)/\xk x=true/\xs.all xk=true/\Q (.bl (if neg then !inV x xs else inV x xs)) H:=rfl
end
theorem uc {X:Cx} {x:Str} {i:Int} {pos:Pos} (hg:Gl X x) (hm:∃t,X.mg x=some (Value.int i t)) (hd:(x==("__debug__" : Str))=false:=by decide):PE X (.Name x pos) (tC (.int i)):=by
  obtain⟨t,hm⟩:=hm;exact xh hg hm ⟨t,rfl⟩ hd
def Ite(K:Fg)(a:Addr):It :=
  ⟨fun i H=>∃xs x,SqL K H a xs/\xs[i]? = some x,
   fun i H v H'=>∃T x,v=.ref T/\H T=none/\H'=upd H T (.tup [.int i,x])/\∀xs,SqL K H a xs->xs[i]? = some x,
   fun i H=>∃xs,SqL K H a xs/\xs.length<=i⟩
def iEnum(K:Fg)(ta:TA):TI:=fun σ H R=>ta σ H fun vs H1=>∃a,vs=[.ref a]/\(∃xs,SqL K H1 a xs)/\R (Ite K a) H1
theorem e_enum{K:Fg}{ta:TA}{σ:St}{H:Hp}{R:It->Hp->Prop}:iEnum K ta σ H R=ta σ H fun vs H1=>∃a,vs=[.ref a]/\(∃xs,SqL K H1 a xs)/\R (Ite K a) H1:=rfl
section
variable{X:Cx}
end
section
variable{X:Cx}
end
end L2
namespace L2
open PySem PySem.Spec PyProof.Rows
section
variable{X:Cx}{pins:List (Addr×Obj)}{σ:St}{H:Hp}{k:Nat}{f:Addr}{fd:FuncData}{ps:List Str}{sp:Sp}
def tMinK(K:Fg)(sp:Sp)(ta:TA):TE:=fun σ H Q=>ta σ H fun vs H1=>∃(l:Addr) (xs:List V) (kf:Nat->Int),vs=[.ref l]/\SqL K H1 l xs/\0<xs.length /\
  (∀i x,xs[i]? = some x->sp [x] H1 (fun v H'=>v=.int (kf i)/\H'=H1) E0)/\∀i x,xs[i]? = some x->(∀j,j<xs.length->kf i<=kf j/\(j<i->kf i<kf j))->Q x H1
theorem e_minK{K:Fg}{ta:TA}{Q:VK}:tMinK K sp ta σ H Q=ta σ H fun vs H1=>∃(l:Addr) (xs:List V) (kf:Nat->Int),vs=[.ref l]/\SqL K H1 l xs/\0<xs.length /\
  (∀i x,xs[i]? = some x->sp [x] H1 (fun v H'=>v=.int (kf i)/\H'=H1) E0)/\∀i x,xs[i]? = some x->(∀j,j<xs.length->kf i<=kf j/\(j<i->kf i<kf j))->Q x H1:=rfl
end
end L2
namespace L2
open PySem PySem.Spec PyProof.Rows
def CX1(P:Program)(w:World):CXT:=fun outer H s E e s'=>∃(ea C:Addr) (a0:Value) (B:Heap) (H':Hp),e=.ref ea/\s'.os=s.os/\AllBare s'.gens/\Un (frs outer) [] H H' s.heap s'.heap/\HOk P w H' s'.heap /\
  Heap.FlyingW B outer ea (.ref C) a0 s'.heap/\H' ea=none/\(∀b o,H' b=some o->∃ob,B.get? b=some ob)/\(∀b o,s.heap.get? b=some o->b∉frs outer->∃ob,B.get? b=some ob/\(H b=none->ob=o))/\E (.ref C) none H'
theorem pass1{P:Program}{w:World}{X:Cx}:ot (CX1 P w) X E0:=fun _ _ _ _ _ _ _ h=>by
  obtain⟨_,_,_,_,_,_,_,_,_,_,_,_,_,_,z⟩:=h;exact z.elim
theorem HOk.flown{P:Program}{w:World}{H:Hp}{h h' B:Heap}(x:HOk P w H h)(bh:B.StaysIn h)(bh':B.StaysIn h')(dom:∀b o,H b=some o->∃ob,B.get? b=some ob):HOk P w H h':=fun a o e =>
  (x a o e).stay (fun b u hb q=>by
    have hB:∃ob,B.get? b=some ob:=by
      rcases hb with rfl | hb
      . exact dom _ _ e
      . exact dom _ _ hb
    obtain⟨ob,hob⟩:=hB;have:=bh b ob hob;rw[q]at this;cases this
    exact bh' b u hob) (fun _ q=>q) fun _ _ q=>q
theorem e5{P:Program}{w:World}{H:Hp}{h:Heap}{a:Addr}{o:HO}(x:ObjOk P w H h a o):∃ob,h.get? a=some ob:=by
  cases o with
  | lst xs=>obtain⟨_,_,_,_,e⟩:=x;exact⟨_,e⟩
  | tup xs=>obtain⟨_,_,_,o,e,_⟩:=x;exact⟨_,e⟩
  | dK kvs=>obtain⟨_,_,_,_,o,_,_,e,_⟩:=x;exact⟨_,e⟩
  | dT kvs=>obtain⟨_,_,_,_,o,_,_,e,_⟩:=x;exact⟨_,e⟩
  | set S n=>obtain⟨o,_,_,_,e,_⟩:=x;exact⟨_,e⟩
  | ins C dx fs=>obtain⟨_,_,_,e,_⟩:=x;exact⟨_,e⟩
  | own y=>exact x
  | xd fs=>obtain⟨_,⟨_,_,_,e,_⟩,_⟩:=x;exact⟨_,e⟩
  | rng lo hi=>obtain⟨_,_,_,e⟩:=x;exact⟨_,e⟩
  | frz ob u=>obtain⟨e,_⟩:=x;exact⟨_,e⟩
  | tbl ps=>exact⟨_,(show h.get? a=some _ from x)⟩
  | met f y=>exact⟨_,(show h.get? a=some _ from x)⟩
  | ext φ=>obtain⟨_,e,_⟩:=x;exact e
section
variable{X:Cx}{pins:List (Addr×Obj)}{σ:St}{H:Hp}{s:Shared}
theorem dq{fs:List Addr}{H0 H1:Hp}{h0 h1 h2 B:Heap}(u:Un fs [] H0 H1 h0 h1)(dom2:∀b o,h0.get? b=some o->b∉fs->∃ob,B.get? b=some ob/\(H0 b=none->ob=o))
    (bh':B.StaysIn h2) (sl:h1.UpToSlots h2) (hfr:∀b∈fs,∀o,h1.get? b=some o->∀vs,o.data≠.fields vs):Un fs [] H0 H1 h0 h2 where
  keep:=fun b o e n hb _=>by
    obtain⟨ob,e1,e2⟩:=dom2 b o e hb;rw[e2 n]at e1;exact bh' b o e1
  slot:=fun b o e n hb hx=>by
    obtain⟨s1,e1⟩:=u.slot b o e n hb hx;obtain⟨s2,e2⟩:=sl b _ e1 (hfr b hb _ e1);exact⟨s2,e2⟩
  free:=u.free
  there:=fun b o e hx=>by
    by_cases hb:b∈fs
    . obtain⟨o1,e1⟩:=u.there b o e hx
      obtain⟨s2,e2⟩:=sl b _ e1 (hfr b hb _ e1);exact⟨_,e2⟩
    . obtain⟨ob,e1,_⟩:=dom2 b o e hb
      exact⟨ob,bh' b ob e1⟩
  tups:=u.tups
  frzs:=u.frzs
  tbls:=u.tbls
theorem zdi{P:Program}{w:World}{K:Fg}{mg:Str->Option Value}{base:Heap}{N:List Str}{qual:Str}{scope:Scope}{f:Addr}{cd:Value}{A:Around}{outer:List Env}{s0:Shared}{H0:Hp}{E:XK}{h':Heap}{e C:Addr}{args:List Value}
    (hX:X=cxOf (CX1 P w) P w K mg base N qual scope f cd A outer s0 H0 E) (I:Inv X pins σ H s) (hx:Heap.MadeExcOf s.heap h' e (.ref C) args) (hE:E (.ref C) none H) (tk:Nat):X.xe (.ref e) { s with heap:=h',toks:=tk }:=by
  subst hX
  show wpAny _ _ (leaving _ (.ref e)) _ _ _
  have hst:s.heap.FunFrames base (envOfC qual scope s0.heap.objs.size f cd::outer):=I.stack;have hin:∀env∈(envOfC qual scope s0.heap.objs.size f cd::outer),∀b,env.frame=some b->b∈(envOfC qual scope s0.heap.objs.size f cd::outer).filterMap (·.frame):=fun env he b hb=>ZU.mpr ⟨env,he,hb⟩
  have getB:∀b o,s.heap.get? b=some o->b∉(envOfC qual scope s0.heap.objs.size f cd::outer).filterMap (·.frame)->(PySem.W.hideAll s.heap ((envOfC qual scope s0.heap.objs.size f cd::outer).filterMap (·.frame))).get? b=some o:=fun b o q n=>PySem.W.hideAll_get _ q n
  refine wpAny_leaves_madeW (s:={ s with heap:=h',toks:=tk }) (h:=s.heap) I.ok.frames rfl (fun b o q=>PySem.W.of_hideAll _ q) (PySem.W.funFrames_hide hst hin) hx fun h'' t x1 x2 x3 x4 => ?_
  have dom:∀b o,H b=some o->∃ob,(PySem.W.hideAll s.heap ((envOfC qual scope s0.heap.objs.size f cd::outer).filterMap (·.frame))).get? b=some ob:=fun b o q=>by
    have hlt:=I.hok.lt q
    have hnf:b∉(envOfC qual scope s0.heap.objs.size f cd::outer).filterMap (·.frame):=fun z=>by
      have:=I.stkFree b z;rw[q]at this;cases this
    obtain⟨ob,hob⟩:=e5 (I.hok b o q);exact⟨ob,getB b ob hob hnf⟩
  have un:Un (frs outer) [] H0 H s0.heap s.heap:=I.base
  have dom2:∀b o,s0.heap.get? b=some o->b∉frs outer->∃ob,(PySem.W.hideAll s.heap ((envOfC qual scope s0.heap.objs.size f cd::outer).filterMap (·.frame))).get? b=some ob/\(H0 b=none->ob=o):=fun b o q n=>by
    have hnf:b∉(envOfC qual scope s0.heap.objs.size f cd::outer).filterMap (·.frame):=fun z=>by
      rcases ZK.mp (I.stkSub b z) with y | y
      . have h1:s0.heap.objs.size<=b:=by rw[y];exact I.ok.above
        exact absurd (Zh (Heap.lt_size q) h1) (ZJ _)
      . exact n y
    obtain⟨o1,e1⟩:=un.there b o q (by simp);refine⟨o1,getB b o1 e1 hnf,fun z => ?_⟩;have:=un.keep b o q z n (by simp);rw[e1]at this;exact Option.some.inj this
  have hfr:∀b∈frs outer,∀o,s.heap.get? b=some o->∀vs,o.data≠.fields vs:=fun b hb o q=>by
    obtain⟨_,o',e',n'⟩:=hst.mem (b:=b) (by
      obtain⟨env,he,hf⟩:=ZU.mp hb
      exact ZU.mpr ⟨env,Zv _ he,hf⟩)
    rw[q]at e';cases e';exact n'
  have sl:s.heap.UpToSlots h'':=(Heap.UpToSlots.of_keeps hx.keeps).trans x4;refine⟨e,C,_,_,H,rfl,I.os,I.bare,dq un dom2 x1.1 sl hfr,HOk.flown I.hok (fun b o q=>PySem.W.of_hideAll _ q) x1.1 dom,x1,?_,dom,dom2,hE⟩
  cases q:H e with
  | none=>rfl
  | some o =>
    obtain⟨ob,hob⟩:=e5 (I.hok e o q);rw[hx.new]at hob;cases hob
theorem passX{P:Program}{w:World}{K:Fg}{mg:Str->Option Value}{base:Heap}{N:List Str}{qual:Str}{scope:Scope}{f:Addr}{cd:Value}{A:Around}{outer:List Env}{s0:Shared}{H0:Hp}{E E1:XK}
    (hX:X=cxOf (CX1 P w) P w K mg base N qual scope f cd A outer s0 H0 E) (hE:∀c H',E1 c none H'->E c none H'):ot (CX1 P w) X E1:=by
  subst hX;intro pins σ H s e s' I h;obtain⟨ea,C,a0,B,H',rfl,os,bare,un,hok,fl,hea,dom,dom2,hE1⟩:=h
  show wpAny _ _ (leaving _ (.ref ea)) _ _ _
  have hst:s'.heap.FunFrames B (envOfC qual scope s0.heap.objs.size f cd::outer):=fl.2.2.1;have un0:Un (frs outer) [] H0 H s0.heap s.heap:=I.base
  have sub:∀b∈frs outer,b∈frs (envOfC qual scope s0.heap.objs.size f cd::outer):=fun b hb=>by
    obtain⟨env,he,hf⟩:=ZU.mp hb;exact ZU.mpr ⟨env,Zv _ he,hf⟩
  have notL:∀b o,s0.heap.get? b=some o->b∉frs outer->b∉frs (envOfC qual scope s0.heap.objs.size f cd::outer):=fun b o q n z=>by
    rcases ZK.mp (I.stkSub b z) with y | y
    . have h1:s0.heap.objs.size<=b:=by rw[y];exact I.ok.above
      exact absurd (Zh (Heap.lt_size q) h1) (ZJ _)
    . exact n y
  refine wpAny_leaves_onW I.ok.frames rfl fl fun h'' x1 x2 => ?_
  have ut:=(un0.mono sub (fun _ z=>z)).trans un;have un1:Un (frs outer) [] H0 H' s0.heap s'.heap:=⟨fun b o e n hb hx=>ut.keep b o e n (notL b o e hb) hx,fun b o e n hb hx=>ut.slot b o e n (sub b hb) hx,ut.free,ut.there,ut.tups,ut.frzs,ut.tbls⟩
  have dom2':∀b o,s0.heap.get? b=some o->b∉frs outer->∃ob,B.get? b=some ob/\(H0 b=none->ob=o):=fun b o q n=>by
    obtain⟨o1,e1⟩:=un0.there b o q (by simp);obtain⟨ob,k1,k2⟩:=dom2 b o1 e1 (notL b o q n);refine⟨ob,k1,fun z => ?_⟩;have e2:=un0.keep b o q z n (by simp);rw[e1]at e2;cases e2;exact k2 (un0.free b _ q z (by simp))
  have hfr:∀b∈frs outer,∀o,s'.heap.get? b=some o->∀vs,o.data≠.fields vs:=fun b hb o q=>by
    obtain⟨_,o',e',n'⟩:=hst.mem (b:=b) (sub b hb);rw[q]at e';cases e';exact n'
  exact⟨ea,C,a0,B,H',rfl,os.trans I.os,bare,dq un1 dom2' x1.1 x2 hfr,HOk.flown hok fl.1 x1.1 dom,x1,hea,dom,dom2',hE _ _ hE1⟩
theorem Inv.track{ea:Addr}{oe:Obj}{o:HO}(I:Inv X pins σ H s)(he:s.heap.get? ea=some oe)(hn:H ea=none)(new:X.s₀.heap.get? ea=none)(hL:ea≠X.env.locals)(hC:∀x c,X.env.cells.lookup x=some c->c≠ea)(hp:∀p∈X.pn++pins,p.1≠ea)
    (ok:ObjOk X.prog X.w (upd H ea o) s.heap ea o):Inv X pins σ (upd H ea o) s:=by
  have ne0:∀b u,H b=some u->b≠ea:=fun b u q z=>by rw[z,hn]at q;cases q
  have new':∀b u,X.s₀.heap.get? b=some u->b≠ea:=fun b u q z=>by rw[z,new]at q;cases q
  refine⟨I.ok,I.os,I.bare,⟨I.base.keep,I.base.slot,fun b u q n hx => ?_,I.base.there,fun b xs q => ?_,fun b u v q => ?_,fun b ps q => ?_⟩,I.loc,I.cell,?_,fun x c q => ?_,fun p h => ?_,fun b u q => ?_,I.len⟩
  . rw[z8 (new' b u q)];exact I.base.free b u q n hx
  . have:=I.base.tups b xs q;rw[z8 (ne0 b _ this)];exact this
  . have:=I.base.frzs b u v q;rw[z8 (ne0 b _ this)];exact this
  . obtain⟨m,this⟩:=I.base.tbls b ps q;exact⟨m,by rw[z8 (ne0 b _ this)];exact this⟩
  . rw[z8 (Ne.symm hL)];exact I.free
  . rw[z8 (hC x c q)];exact I.freeC x c q
  . obtain⟨h1,h2,h3⟩:=I.pin p h
    exact⟨h1,by rw[z8 (hp p h)];exact h2,h3⟩
  . by_cases hb:b=ea
    . subst hb;rw[zn]at q;cases q;exact ok
    . rw[z8 hb]at q
      exact(I.hok b u q).stay (fun _ _ _ z=>z) (fun c z=>by rw[z8 (ne0 c _ z)];exact z) fun c xs z=>by rw[z8 (ne0 c _ z)];exact z
def ExcO(ea C:Addr):HO:=.ext fun h=>∃o,h.get? ea=some o/\o.cls=.ref C/\∃vs,o.data=.fields vs
abbrev Cx.suite(X:Cx)(e:Value):Cx:={ X with A:=X.A.mark (some e),calm:=false,xe:=fun _ _=>False }
theorem Inv.suite(I:Inv X pins σ H s)(e:Value):Inv (X.suite e) pins σ H s :=
  ⟨⟨I.ok.mod,I.ok.kind,I.ok.glob,I.ok.blt,I.ok.above,I.ok.inj,I.ok.has,I.ok.cab,(fun z=>by cases z),I.ok.frames,I.ok.stk,I.ok.exf,I.ok.bs,I.ok.bsz,I.ok.noex,I.ok.exfs,I.ok.funs,I.ok.frf⟩,I.os,I.bare,I.base,I.loc,I.cell,I.free,I.freeC,I.pin,I.hok,I.len⟩
theorem Inv.unsuite{e:Value}(I:Inv (X.suite e) pins σ H s)(hd:X.calm=true->X.A.handled=none):Inv X pins σ H s :=
  ⟨⟨I.ok.mod,I.ok.kind,I.ok.glob,I.ok.blt,I.ok.above,I.ok.inj,I.ok.has,I.ok.cab,hd,I.ok.frames,I.ok.stk,I.ok.exf,I.ok.bs,I.ok.bsz,I.ok.noex,I.ok.exfs,I.ok.funs,I.ok.frf⟩,I.os,I.bare,I.base,I.loc,I.cell,I.free,I.freeC,I.pin,I.hok,I.len⟩
end
abbrev VE:List Value:=[.type "ValueError", .type "Exception", .type "BaseException", .type "object"]
structure Err(K:Fg)(C:Addr):Prop where
  ok:PySem.W.excIn K C VE "ValueError.__new__" = true
theorem Err.obj{K:Fg}{C:Addr}{h:Heap}(c:Err K C)(X:K.In h):∃bm N nm q bs hdct sn sub ab col dd k0 k1 k2 k3 k5 mN,h.get? C=some (excClassObj nm q C N bs bm hdct sn sub ab col dd k0 k1 k2 k3 k5 "ValueError.__new__") /\
    h.Ns N mN/\mN "__init__" = none/\OwnTail h VE bm/\∀v b,PySem.W.mroIn K C v=some b->(Value.ref C::bm).contains v=b:=by
  have q:=c.ok;unfold PySem.W.excIn at q
  split at q
  case h_2=>cases q
  case h_1 dd cd sl ho =>
    split at q
    case h_2=>cases q
    case h_1 C' bm k0 k1 k2 k3 n k5 hm hs =>
      simp only[Bool.and_eq_true,beq_iff_eq,Bool.not_eq_true']at q
      have hmro:∀v b,PySem.W.mroIn K C v=some b->(Value.ref C'::bm).contains v=b:=fun v b e=>by
        unfold PySem.W.mroIn PySem.W.clsIn at e;rw[ho]at e;simp only[Option.bind_some,hm,List.isEmpty_cons,Bool.false_eq_true,if_false,Option.some.injEq]at e;exact e
      obtain⟨⟨⟨⟨⟨e1,e2⟩,hdel⟩,ht⟩,hok⟩,hni⟩:=q;subst e1;subst e2;obtain⟨nm,bs,mro,ns,qn,hd,sn,sub,ab,col,del⟩:=cd;have hm':mro=Value.ref C'::bm:=hm;have hdel':del=false:=hdel;subst hm';subst hdel'
      have hsl:sl = #[k0,k1,k2,k3,some (.builtin "ValueError.__new__"),k5]:=by
        cases sl with
        | mk l =>
          have hs':l=[k0,k1,k2,k3,some (.builtin "ValueError.__new__"),k5]:=hs;rw[hs']
      subst hsl;exact⟨bm,ns,nm,qn,bs,hd,sn,sub,ab,col,dd,k0,k1,k2,k3,k5,_,X _ _ ho,.of_isNs (PySem.W.isNs_of_in X hok),PySem.W.nsMap_none_of_in X hok hni,PySem.W.tail_of_in X ht,hmro⟩
section
variable{M:Model}{A:Around}{E:Value->Shared->Prop}
theorem zab{h:Heap}{g:Array GenState}{d:Drawn}{t:Nat}{os:OsState}{e C D:Addr}{oe:Obj}{Q:Bool->Shared->Prop}{b:Bool}{K:Fg}(X:K.In h)(cC:Err K C)(cD:Err K D)(he:h.get? e=some oe)(hcls:oe.cls=.ref C)
    (hsub:PySem.W.mroIn K C (.ref D)=some b) (hq:Q b ⟨h,g,d,t,os⟩):wpAny M A (excMatches (.ref e) (.ref D)) Q E ⟨h,g,d,t,os⟩:=by
  obtain⟨bm,N,nm,q,bs,hdct,sn,sub,ab,col,dd,k0,k1,k2,k3,k5,mN,hC,hN,hni,T,hm⟩:=cC.obj X;obtain⟨bm',N',nm',q',bs',hdct',sn',sub',ab',col',dd',k0',k1',k2',k3',k5',mN',hD,hN',hni',T',hm'⟩:=cD.obj X;have hcB:(Value.ref D::bm').contains (.type "BaseException")=true:=by rw[YO,T'.hasType (X := "BaseException") (b:=true) (by decide +kernel),Bool.or_true]
  have hcD:=hm _ _ hsub;have f:=tc_notTuple;unfold excMatches
  repeat (first | (with_reducible refine wpAny_loadPart_at he ?_;rw[hcls]) | with_reducible refine wpAny_loadPart_at hD ?_ | (with_reducible refine wpAny_isSubtype_exc hD ?_;rw[hcB]) | (with_reducible refine wpAny_isSubtype_exc hC ?_;rw[hcD]) | wp_step)
  cases b <;> (try wp_walk) <;> exact hq
end
end L2
namespace L2
open PySem PySem.Spec PyProof.Rows
theorem PS.nox{X:Cx}{st:Stmt}{t:TS}(h:PS X.nox st t):PS X st t:=fun pins s σ H D I hw =>
  wpAny_mono (h pins s σ H D (I.wish _) hw) (fun _ _ z=>z.unwish) fun _ _ z=>z.elim
def tryXe(X:Cx)(pn:List (Addr×Obj))(J:St->Value->Hp->Prop):Value->Shared->Prop:=fun e s' =>
  ∃pins σ H s,Inv { X with pn:=pn,xe:=fun _ _=>False } pins σ H s/\CX1 X.prog X.w X.stack H s (fun c _ H'=>J σ c H') e s'
abbrev jp(X:Cx)(pn:List (Addr×Obj))(J:St->Value->Hp->Prop):Cx:={ X with pn:=pn,xe:=tryXe X pn J }
def bg(X:Cx)(J:St->Value->Hp->Prop):Prop:=∀pins σ H s e s',Inv X pins σ H s->CX1 X.prog X.w X.stack H s (fun c _ H'=>J σ c H') e s'->X.xe e s'
theorem iq{X:Cx}{pn:List (Addr×Obj)}{J:St->Value->Hp->Prop}:bg (jp X pn J) J:=fun pins σ H s e s' I h =>
  ⟨pins,σ,H,s,Inv.unwish (X:={ X with pn:=pn,xe:=fun _ _=>False }) (E:=tryXe X pn J) I,h⟩
theorem xx{X:Cx}{P:Program}{w:World}{K:Fg}{mg:Str->Option Value}{base:Heap}{N:List Str}{qual:Str}{scope:Scope}{f:Addr}{cd:Value}{A:Around}{outer:List Env}{s0:Shared}{H0:Hp}{E:XK}
    (hX:X=cxOf (CX1 P w) P w K mg base N qual scope f cd A outer s0 H0 E):bg X (fun _ c H'=>E c none H'):=fun pins σ H s e s' I h=>by
  have q:=passX (X:=X) (E1:=fun c _ H'=>E c none H') hX (fun _ _ z=>z) pins σ H s e s' I;subst hX;exact q h
structure FnAtX(P:Program)(w:World)(K:Fg)(mg:Str->Option Value)(base:Heap)(name:Str)(k:Nat)(ps:List Str)(sp:Sp):Prop where
  ex:∃f fd,mg name=some (.ref f)/\PySem.W.keepIn K (.ref f)=true/\Binds K fd ps []/\FnOk P w K mg base (CX1 P w) k f fd ps sp
theorem FnAtX.of{P:Program}{w:World}{K:Fg}{mg:Str->Option Value}{base:Heap}{name:Str}{st:Stmt}{N ps:List Str}{k:Nat}{sp:Sp}(D:zc K mg name st ps)(S:zq N ps (zf st))(len:∀vs H Q E,sp vs H Q E->vs.length=ps.length)
    (hbody:∀(f:Addr) (cdv:Value) (A:Around) (outer:List Env) (s:Shared) (H:Hp) (vs:List V) (Q:VK) (E:XK),Room k (A.deeper (envOfC name (zf st) s.heap.objs.size f cdv))->sp vs H Q E ->
      ∃t,PSs (cxOf (CX1 P w) P w K mg base N name (zf st) f cdv A outer s H E) (yg st) t/\t { nx:=fun _ H'=>Q .non H',rt:=Q } (start N vs) H):FnAtX P w K mg base name (k+1) ps sp:=by
  obtain⟨f,fd,hm,F,hb⟩:=D.ex;refine⟨f,fd,hm,F.kp,hb,?_⟩;obtain⟨oc,od,kV,doc,pm,an,cdv,ct,osl,rfl,lk,hcd⟩:=F.ex;exact zfr lk hcd S len (hbody f cdv)
section
variable{X:Cx}{x:Str}{k:Nat}{ps:List Str}{sp:Sp}{p pos:Pos}{e:Expr}{es:List Expr}{t:TA}
def zg1(sp:Sp)(J:St->Value->Hp->Prop)(t:TA):TE:=fun σ H Q=>t σ H fun vs H1=>sp vs H1 Q fun c _ H'=>J σ c H'
theorem zkw{J:St->Value->Hp->Prop}{σ:St}{H:Hp}{Q:VK}:zg1 sp J t σ H Q=t σ H fun vs H1=>sp vs H1 Q fun c _ H'=>J σ c H':=rfl
theorem vc {J:St->Value->Hp->Prop} (F:FnAtX X.prog X.w X.K X.mg X.base x k ps sp) (hr:Room k X.A) (hx:bg X J) (hg:Gl X x) (ha:PA X (e::es) t) (hdb:(x==("__debug__" : Str))=false:=by decide) (he:starEach (e::es) X.env=(false,eval e X.env)::starEach es X.env:=by rfl)
    (hpl:(backTo pos (starEach es X.env)).any (·.1)=false:=by rfl):PE X (.Call (.Name x p) (e::es) [] pos) (zg1 sp J t):=by
  obtain⟨f,fd,hm,hk,hb,G⟩:=F.ex;intro pins s σ H Q I h;refine wpAny_Call_Name_kw (mh I hg hm ?_ hdb);refine PySem.W.callWith_K (h₀:=X.base) I.ok.mod.kin hk (thn (ha pos pins s σ H _ I h) fun us s1 ⟨vs,H1,I1,r,q⟩=>⟨I1.kIn,?_⟩) he hpl;have hl:(us++[]).length=ps.length:=by rw[ZP,<-r.length];exact G.len _ _ _ _ q
  refine wpAny_call (codeAny_mono (G.run X.A X.stack s1 H1 ⟨us,[]⟩ us vs Q _ hr I1.env0 (by have:=hb s1 us I1.kIn hl;rw[ZP]at this;exact this) r q) fun r' s' hq => ?_)
  cases r' with
  | error e=>exact hx pins σ H1 s1 e s' I1 hq
  | ok fl =>
    cases fl with
    | ret u=>exact I1.after hq
    | next=>exact False.elim hq
    | brk=>exact False.elim hq
    | cont=>exact False.elim hq
theorem zkl (F:FnAtX X.prog X.w X.K X.mg X.base x k ps sp) (hr:Room k X.A) (hg:Gl X x) (ha:PA X (e::es) t) (hdb:(x==("__debug__" : Str))=false:=by decide) (he:starEach (e::es) X.env=(false,eval e X.env)::starEach es X.env:=by rfl)
    (hpl:(backTo pos (starEach es X.env)).any (·.1)=false:=by rfl):PE X (.Call (.Name x p) (e::es) [] pos) (zb5 sp [] E0 t):=by
  obtain⟨f,fd,hm,hk,hb,G⟩:=F.ex;exact zfe G hr hg hm hk hb .nil pass1 ha hdb he hpl
end
section
variable{X:Cx}{C:Addr}{x:Str}{np cpos pos:Pos}
def zh3(X:Cx)(C:Addr)(R:Hp->Prop):Prop:=∀pins σ H s h' e args tk,Inv X pins σ H s->Heap.MadeExcOf s.heap h' e (.ref C) args->R H->X.xe (.ref e) { s with heap:=h',toks:=tk }
theorem y0{P:Program}{w:World}{K:Fg}{mg:Str->Option Value}{base:Heap}{N:List Str}{qual:Str}{scope:Scope}{f:Addr}{cd:Value}{A:Around}{outer:List Env}{s0:Shared}{H0:Hp}{E:XK}
    (hX:X=cxOf (CX1 P w) P w K mg base N qual scope f cd A outer s0 H0 E):zh3 X C (fun H=>E (.ref C) none H):=fun pins σ H s h' e args tk I hx hE=>zdi hX I hx hE tk
def ziw(R:Hp->Prop)(ta:TA):TS:=fun _ σ H=>ta σ H fun vs H1=>vs.length<=sizeLine/\R H1
theorem zkq{R:Hp->Prop}{ta:TA}{D:Ends}{σ:St}{H:Hp}:ziw R ta D σ H=ta σ H fun vs H1=>vs.length<=sizeLine/\R H1:=rfl
theorem wa {e:Expr} {es:List Expr} {R:Hp->Prop} {ta:TA} (hc:X.calm=true) (c:Err X.K C) (hg:Gl X x) (hm:X.mg x=some (.ref C)) (hr:zh3 X C R) (ha:PA X (e::es) ta) (hdb:(x==("__debug__" : Str))=false:=by decide)
    (he:starEach (e::es) X.env=(false,eval e X.env)::starEach es X.env:=by rfl) (hpl:(backTo cpos (starEach es X.env)).any (·.1)=false:=by rfl) :
    PS X (.Raise (some (.Call (.Name x np) (e::es) [] cpos)) none pos) (ziw R ta):=by
  intro pins s σ H D I h;obtain⟨bm,N,nm,q,bs,hdct,sn,sub,ab,col,dd,k0,k1,k2,k3,k5,mN,hC,hN,hni,T,_⟩:=c.obj I.ok.mod.kin
  refine wpAny_Raise_call_subU (C:=C) (nm:=nm) (q:=q) (N:=N) (bs:=bs) (bm:=bm) (hdct:=hdct) (sn:=sn) (sub:=sub) (ab:=ab) (col:=col) (dd:=dd) (k0:=k0) (k1:=k1) (k2:=k2) (k3:=k3) (k5:=k5)
    PySem.F.excBase_ValueError (by decide +kernel) PySem.F.excBase_ValueError (mN:=mN) (T.hasType PySem.F.excBase_ValueError.hasBase) (I.ok.hd hc) (by rw[he];show(false||(backTo cpos (starEach es X.env)).any (·.1))=false;rw[hpl];rfl) hni (mh I hg hm ⟨rfl,?_⟩ hdb)
  have hrun:=ha cpos pins s σ H _ I h;rw[he]at hrun ⊢;refine Calls.evalArgs_plain (wpAny_mono hrun (fun us s1 h1 => ?_) fun _ _ z=>z);obtain⟨vs,H1,I1,r1,hz,q1⟩:=h1;exact⟨rfl,by rw[<-r1.length];exact hz,I1.bk _ _ hC,hN.keeps I1.bk,T.keeps I1.bk,fun h' e hx=>hr pins σ H1 s1 h' e us s1.toks I1 hx q1⟩
end
section
variable{X:Cx}{pins:List (Addr×Obj)}{σ:St}{H:Hp}{s:Shared}
theorem Inv.intry(I:Inv X pins σ H s)(J:St->Value->Hp->Prop):Inv (jp X (X.pn++pins) J) [] σ H s :=
  ⟨⟨I.ok.mod,I.ok.kind,I.ok.glob,I.ok.blt,I.ok.above,I.ok.inj,I.ok.has,I.ok.cab,I.ok.hd,I.ok.frames,I.ok.stk,I.ok.exf,I.ok.bs,I.ok.bsz,I.ok.noex,I.ok.exfs,I.ok.funs,I.ok.frf⟩,I.os,I.bare,I.base,I.loc,I.cell,I.free,I.freeC,fun p hp=>I.pin p (by simpa using hp),I.hok,I.len⟩
theorem Inv.outtry{pl:List (Addr×Obj)}{E:Value->Shared->Prop}(I:Inv { X with pn:=X.pn++pins,xe:=E } pl σ H s):Inv X pins σ H s :=
  ⟨⟨I.ok.mod,I.ok.kind,I.ok.glob,I.ok.blt,I.ok.above,I.ok.inj,I.ok.has,I.ok.cab,I.ok.hd,I.ok.frames,I.ok.stk,I.ok.exf,I.ok.bs,I.ok.bsz,I.ok.noex,I.ok.exfs,I.ok.funs,I.ok.frf⟩,I.os,I.bare,I.base,I.loc,I.cell,I.free,I.freeC,fun p hp=>I.pin p (Yg _ hp),I.hok,I.len⟩
theorem SP.outtry{J:St->Value->Hp->Prop}{D:Ends}{f:Flow}{s':Shared}(h:SP (jp X (X.pn++pins) J) [] D f s'):SP X pins D f s':=by
  cases f with
  | next=>obtain⟨a,b,I,q⟩:=h;exact⟨a,b,I.outtry,q⟩
  | brk=>obtain⟨a,b,I,q⟩:=h;exact⟨a,b,I.outtry,q⟩
  | cont=>obtain⟨a,b,I,q⟩:=h;exact⟨a,b,I.outtry,q⟩
  | ret u=>obtain⟨v,a,b,I,r,q⟩:=h;exact⟨v,a,b,I.outtry,r,q⟩
theorem kj{M:Model}{A:Around}{E:Value->Shared->Prop}{i:Nat}{n:Str}{pos:Pos}{Q:Unit->Shared->Prop}(I:Inv X pins σ H s)(hN:X.N.Nodup)(hi:X.N[i]? = some n)(hx:X.env.scope.names.lookup n=some .local)
    (h:∀s',Inv X pins (σ.set i none) H s'->Q () s'):wpAny M A (do bindName X.env n .none;unbindBehindTheSuite X.env n pos) Q E s:=by
  refine wpAny_bind (wpAny_bindName (js I hN hi (.inl hx) (v:=.non) rfl (fun s1 I1 => ?_) (.inr hx)));obtain⟨m,hn,hl⟩:=id I1.loc;have hiσ:i<σ.length:=by rw[I.len];exact(Zc.mp hi).1
  obtain⟨u,ru,lk⟩:=hl i n .non hi (by rw[Yo hiσ]) (.inl hx)
  have hm:∃u,m n=some u:=by
    rcases lk with ⟨_,e⟩ | ⟨k,_⟩
    . exact⟨u,e⟩
    . exfalso
      have hk:X.env.kindOf n=some .local:=hx
      rcases k with k | k <;> (rw[hk]at k;cases k)
  obtain⟨u',hu'⟩:=hm;have hcls:(X.env.scope.kind==.class||(X.env.scope.kind==.module&&X.env.locals != X.env.globals))=false:=by rw[I.ok.kind];rfl
  unfold unbindBehindTheSuite;refine wpAny_onRaise (wpAny_unbindName_local hx hn hu' hcls fun h' u2 hn' sb => ?_);obtain⟨oL,_,_,hoL,_⟩:=id hn;have J:Inv X pins (σ.set i (some .non)) H s1:=I1;refine h _ ⟨J.ok,J.os,J.bare,⟨fun b o e z hb hx' => ?_,fun b o e z hb hx' => ?_,J.base.free,fun b o e hx' => ?_,J.base.tups,J.base.frzs,J.base.tbls⟩,⟨_,hn',fun j y v' e1 e2 e3 => ?_⟩,fun y c e => ?_,J.free,J.freeC,fun p hp => ?_,fun b ob e => ?_,by simpa using I.len⟩
  . exact(sb.2 b (Zs (Zh (Heap.lt_size e) J.ok.above))).trans (J.base.keep b o e z hb hx')
  . obtain⟨sl,e1⟩:=J.base.slot b o e z hb hx'
    exact⟨sl,(sb.2 b (Zs (Zh (Heap.lt_size e) J.ok.above))).trans e1⟩
  . obtain⟨o',e1⟩:=J.base.there b o e hx'
    exact⟨o',(sb.2 b (Zs (Zh (Heap.lt_size e) J.ok.above))).trans e1⟩
  . by_cases hj:j=i
    . subst hj
      rw[Yo hiσ]at e2;cases e2
    . rw[Yq (Ne.symm hj)]at e2
      obtain⟨w',r',q⟩:=hl j y v' e1 (by rw[Yq (Ne.symm hj)];exact e2) e3;refine⟨w',r',?_⟩
      rcases q with ⟨k,e⟩ | ⟨k,c,e,z⟩
      . refine .inl ⟨k,?_⟩
        have:y≠n:=fun e=>hj (dt hN e1 (e▸hi))
        simp[this,e]
      . exact .inr ⟨k,c,e,z.sameBut sb (J.cne y c e)⟩
  . obtain⟨w',z⟩:=J.cell y c e
    exact⟨w',z.sameBut sb (J.cne y c e)⟩
  . obtain⟨e,z,ne,nf,d⟩:=J.pin p hp
    exact⟨(sb.2 p.1 ne).trans e,z,ne,nf,d⟩
  . refine(J.hok b ob e).stay (fun c w' hc q=>(sb.2 c ?_).trans q) (fun _ q=>q) fun _ _ q=>q
    rintro rfl
    rcases hc with hc | hc
    . rw[<-hc,J.free]at e;cases e
    . rw[J.free]at hc;cases hc
def i4(i:Nat)(D:Ends):Ends:={ nx:=fun σ H=>D.nx (σ.set i none) H,rt:=D.rt,bk:=fun σ H=>D.bk (σ.set i none) H,ct:=fun σ H=>D.ct (σ.set i none) H }
def ziv(K:Fg)(D0:Addr)(i:Nat)(tb:(St->Value->Hp->Prop)->List (Addr×Obj)->TS)(ts:Value->TS):TS:=fun D σ H=>∃J:St->Value->Hp->Prop,(∀pn,tb J pn D σ H) /\
  ∀σ1 c H1,J σ1 c H1->∃C,c=.ref C/\Err K C/\PySem.W.mroIn K C (.ref D0)=some true/\∀e ea,H1 ea=none->ts e (i4 i D) (σ1.set i (some (.ref ea))) (upd H1 ea (ExcO ea C))
theorem za5{body:List Stmt}{b0:Stmt}{suite:List Stmt}{x n:Str}{np hpos pos:Pos}{D0:Addr}{i:Nat}{tb:(St->Value->Hp->Prop)->List (Addr×Obj)->TS}{ts:Value->TS}(cD:Err X.K D0)(hg:Gl X x)(hm:X.mg x=some (.ref D0))(hN:X.N.Nodup)(hi:X.N[i]? = some n)(hx:X.env.scope.names.lookup n=some .local)
    (hb:∀J pn,PSs (jp X pn J) body (tb J pn)) (hs:∀e,PSs (X.suite e) (b0::suite) (ts e)) (hst:X.stack=X.env::X.outer:=by rfl) (hf:X.env.frame=some X.env.locals:=by rfl) (hex:X.ex=[]:=by rfl) (hdb:(x==("__debug__" : Str))=false:=by decide) :
    PS X (.Try body [.ExceptHandler (some (.Name x np)) (some n) (b0::suite) hpos] [] [] pos) (ziv X.K D0 i tb ts):=by
  intro pins s σ H D I h;obtain⟨J,hbody,hcatch⟩:=h;refine wpAny_Try_except (wpAny_mono (hb J (X.pn++pins) [] s σ H D (I.intry J) (hbody _)) (fun f s1 h1 => ?_) fun e s1 h1 => ?_)
  . have h2:=SP.outtry h1
    cases f with
    | next =>
      obtain⟨a,b,I1,q⟩:=h2;exact wpAny_execs_nil ⟨a,b,I1,q⟩
    | brk=>exact h2
    | cont=>exact h2
    | ret u=>exact h2
  . obtain⟨pins',σ1,H1,s2,I2,hcx⟩:=h1
    have J2:Inv X pins σ1 H1 s2:=I2.outtry;obtain⟨ea,C,a0,B,H',e1,os,bare,un,hok,fl,hea,dom,dom2,hJ⟩:=hcx;subst e1;obtain⟨C2,eC,cC,hsub,hsuite⟩:=hcatch σ1 _ H' hJ;obtain rfl:C=C2:=by injection eC
    have hfr0:X.A.frames=some (X.env::X.outer):=by rw[<-hst];exact I.ok.frames
    have fl0:Heap.FlyingW B (X.env::X.outer) ea (.ref C) a0 s1.heap:=by rw[<-hst];exact fl
    have hfr:∀b∈frs X.stack,∀o,s1.heap.get? b=some o->∀vs,o.data≠.fields vs:=fun b hb o q=>by
      obtain⟨_,o',e',n'⟩:=fl.2.2.1.mem hb;rw[q]at e';cases e';exact n'
    have old_ne:∀b o,s2.heap.get? b=some o->b≠ea:=fun b o q z=>by
      by_cases hbf:b∈frs X.stack
      . obtain⟨oe,vs,T,oT,ts',he,_,hd,_⟩:=fl.2.2.2
        rw[<-z]at he;exact hfr b hbf oe he vs hd
      . obtain⟨ob,k1,_⟩:=dom2 b o q hbf
        rw[z,fl.2.1]at k1;cases k1
    refine wpAny_looks_onW hfr0 hf fl0 fun h4 held4 sm4 => ?_
    refine wpAny_landsW held4 fun h5 fl5 sm5 => ?_
    have at5:∀{h6:Heap} {sx:Shared},sx.heap=h6->sx.os=s1.os->sx.gens=s1.gens->B.StaysIn h6->s1.heap.UpToSlots h6->Inv X pins σ1 H' sx:=fun {h6 sx} e1 e2 e3 k1 k2=>by
      subst e1;exact J2.call' (ch:=[]) (e2.trans os) (dq un dom2 k1 k2 hfr) (HOk.flown hok fl.1 k1 dom) (by rw[e3];exact bare) (fun b z=>absurd z (by simp))
    have I5:Inv X pins σ1 H' { s1 with heap:=h5 }:=at5 (sx:={ s1 with heap:=h5 }) rfl rfl rfl fl5.1 (sm4.trans sm5);obtain⟨oe5,he5,hc5⟩:=fl5.there;refine wpAny_handleBy_cons (codeAny_handlers_test (mh (I5.suite (.ref ea)) hg hm ?_ hdb)) (by intro q;cases q);refine zab I5.kIn cC cD he5 hc5 hsub ?_
    show codeAny _ _ _ _ _
    refine codeAny_handlers_suite_as ?_;refine lands_againW fl5 fun h6 fl6 sm6 => ?_
    have I6:Inv X pins σ1 H' { s1 with heap:=h6 }:=at5 (sx:={ s1 with heap:=h6 }) rfl rfl rfl fl6.1 ((sm4.trans sm5).trans sm6)
    have I7:Inv X pins σ1 (upd H' ea (ExcO ea C)) { s1 with heap:=h6 }:=by
      obtain⟨oe,vs,T,oT,ts',he,⟨hcl,_⟩,hd,_⟩:=fl6.2.2.2;refine I6.track he hea ?_ ?_ (fun y c q => ?_) (fun p hp => ?_) ?_
      . cases q:X.s₀.heap.get? ea with
        | none=>rfl
        | some o =>
          obtain⟨o',q'⟩:=J2.base.there ea o q (by rw[hex];simp);exact absurd rfl (old_ne ea o' q')
      . obtain⟨m,⟨o,_,_,ho,_⟩,_⟩:=J2.loc
        exact Ne.symm (old_ne _ o ho)
      . obtain⟨v,o,ho,_⟩:=J2.cell y c q
        exact old_ne c o ho
      . exact old_ne _ _ (J2.pin p hp).1
      . refine⟨⟨oe,he,hcl,vs,hd⟩,⟨oe,he⟩,fun h1 h2 k1 k2 => ?_⟩
        obtain⟨o,z1,z2⟩:=k1;exact⟨o,k2 o z1,z2⟩
    refine js (X:=X.suite (.ref ea)) (I7.suite (.ref ea)) hN hi (.inl hx) (v:=.ref ea) rfl (fun s8 I8 => ?_) (.inr hx);refine wpAny_mono (hs (.ref ea) pins s8 _ _ (i4 i D) I8 (hsuite _ ea hea)) (fun f s9 h9 => ?_) fun _ _ z=>z.elim
    show wpAny _ _ _ _ _ _
    cases f with
    | next =>
      obtain⟨σ9,H9,I9,q9⟩:=h9;exact kj (I9.unsuite I.ok.hd) hN hi hx fun s' I'=>⟨_,_,I',q9⟩
    | brk =>
      obtain⟨σ9,H9,I9,q9⟩:=h9;exact kj (I9.unsuite I.ok.hd) hN hi hx fun s' I'=>⟨_,_,I',q9⟩
    | cont =>
      obtain⟨σ9,H9,I9,q9⟩:=h9;exact kj (I9.unsuite I.ok.hd) hN hi hx fun s' I'=>⟨_,_,I',q9⟩
    | ret u =>
      obtain⟨v9,σ9,H9,I9,r9,q9⟩:=h9;exact kj (I9.unsuite I.ok.hd) hN hi hx fun s' I'=>⟨_,_,_,I',r9,q9⟩
def tTry0(K:Fg)(D0:Addr)(tb:(St->Value->Hp->Prop)->List (Addr×Obj)->TS)(ts:Value->TS):TS:=fun D σ H=>∃J:St->Value->Hp->Prop,(∀pn,tb J pn D σ H) /\
  ∀σ1 c H1,J σ1 c H1->∃C,c=.ref C/\Err K C/\PySem.W.mroIn K C (.ref D0)=some true/\∀e,ts e D σ1 H1
theorem suK{e:Value}:(X.suite e).K=X.K:=rfl
theorem noxK:X.nox.K=X.K:=rfl
theorem tryK{pn:List (Addr×Obj)}{J:St->Value->Hp->Prop}:(jp X pn J).K=X.K:=rfl
theorem zl2{K:Fg}{D0:Addr}{i:Nat}{tb:(St->Value->Hp->Prop)->List (Addr×Obj)->TS}{ts:Value->TS}{D:Ends}:ziv K D0 i tb ts D σ H=∃J:St->Value->Hp->Prop,(∀pn,tb J pn D σ H) /\
  ∀σ1 c H1,J σ1 c H1->∃C,c=.ref C/\Err K C/\PySem.W.mroIn K C (.ref D0)=some true/\∀e ea,H1 ea=none->ts e (i4 i D) (σ1.set i (some (.ref ea))) (upd H1 ea (ExcO ea C)):=rfl
theorem e_try0{K:Fg}{D0:Addr}{tb:(St->Value->Hp->Prop)->List (Addr×Obj)->TS}{ts:Value->TS}{D:Ends}:tTry0 K D0 tb ts D σ H=∃J:St->Value->Hp->Prop,(∀pn,tb J pn D σ H) /\
  ∀σ1 c H1,J σ1 c H1->∃C,c=.ref C/\Err K C/\PySem.W.mroIn K C (.ref D0)=some true/\∀e,ts e D σ1 H1:=rfl
end
end L2
namespace L2
open PySem PySem.Spec PyProof.Rows
structure ErrQ(K:Fg)(C:Addr):Prop extends Err K C where
  ga:PySem.W.findIn K (.ref C) "__getattribute__" = some (some (.builtin "BaseException.__getattribute__"))
  gn:PySem.W.findIn K (.ref C) "__getattr__" = some none
  gc:PySem.W.findIn K (.ref C) "__class__" = some (some (.builtin "object.__class__"))
section
variable{prog:Program}{w:World}{A:Around}{E:Value->Shared->Prop}{h:Heap}{g:Array GenState}{d:Drawn}{t:Nat}{os:OsState}{a C:Addr}{o:Obj}{K:Fg}
theorem zf8{R:Result->Shared->Prop}(X:K.In h)(c:ErrQ K C)(hx:h.get? a=some o)(hc:o.cls=.ref C)(hq:R (.ok (.ret (.ref C))) ⟨h,g,d,t,os⟩) :
    codeAny (model prog w) A (.call (.builtin "getset_descriptor.__get__") ⟨[.builtin "object.__class__", .ref a,.ref C],[]⟩) R ⟨h,g,d,t,os⟩:=by
  obtain⟨bm,N,nm,q,bs,hdct,sn,sub,ab,col,dd,k0,k1,k2,k3,k5,mN,hC,hN,hni,T,_⟩:=c.obj X;have hT5:(⟨h,g,d,t,os⟩:Shared).TypeIs (.builtin "object.__class__") "getset_descriptor" := F.typeOf_object_class;have hcO:(Value.ref C::bm).contains (.type (".".intercalate ("object.__class__".cutAt '.').dropLast))=true:=by rw[F.owner_object_class,YO,T.hasType (X := "object") (b:=true) (by decide +kernel),Bool.or_true]
  refine codeAny_call_builtin F.slot_gs_get.plain F.entry_gs_get (F.slot_gs_get.check _ _ _ _ _ _ _ _ hT5 (F.args_gs_get _ _ _) ?_)
  repeat (any_goals (first | assumption | (with_reducible refine wpAny_loadPart_at hx ?_;rw[hc]) | (with_reducible refine wpAny_isSubtype_exc hC ?_;rw[hcO]) | wp_step))
  refine⟨Code.quiet_builtin _ (by decide +kernel),codeAny_builtin F.entry_object_class ?_⟩
  repeat (any_goals (first | assumption | (with_reducible refine wpAny_loadPart_at hx ?_;rw[hc]) | wp_step))
theorem zde{tk:Tok}{Q:Fin->Shared->Prop}(X:K.In h)(c:ErrQ K C)(hx:h.get? a=some o)(hc:o.cls=.ref C)(hq:Q (.done (.ret (.ref C))) ⟨h,g,d,t,os⟩) :
    wpAny (model prog w) A (Builtin.«object.__getattribute__» ⟨[.ref a,.str "__class__" tk],[]⟩) Q E ⟨h,g,d,t,os⟩:=by
  have hT5:(⟨h,g,d,t,os⟩:Shared).TypeIs (.builtin "object.__class__") "getset_descriptor" := F.typeOf_object_class;have L1:=PySem.W.looks_findIn (M:=model prog w) X c.gc;have f5:=F.typeOf_object_class;have f6:=F.slot_gs_get.lookup;have f7:=F.slot_gs_set.lookup
  repeat (any_goals (first | assumption | (with_reducible refine wpAny_loadPart_at hx ?_;rw[hc]) | with_reducible refine L1.at ?_ | wp_step))
  refine zf8 X c hx hc ?_
  repeat (any_goals (first | assumption | wp_step))
theorem zdq{M:Model}{nameV:Value}{Q:Unit->Shared->Prop}(X:K.In h)(c:ErrQ K C)(hx:h.get? a=some o)(hc:o.cls=.ref C)(hq:Q () ⟨h,g,d,t,os⟩):wpAny M A (checkBuiltinCall "BaseException.__getattribute__" ⟨[.ref a,nameV],[]⟩) Q E ⟨h,g,d,t,os⟩:=by
  obtain⟨bm,N,nm,q,bs,hdct,sn,sub,ab,col,dd,k0,k1,k2,k3,k5,mN,hC,hN,hni,T,_⟩:=c.obj X;have hk:builtinKind "BaseException.__getattribute__" = some .slot:=by decide +kernel
  have hsplit:splitId "BaseException.__getattribute__" = some ("BaseException", "__getattribute__"):=by decide +kernel
  have hcB:(Value.ref C::bm).contains (.type "BaseException")=true:=by rw[YO,T.hasType (X := "BaseException") (b:=true) (by decide +kernel),Bool.or_true]
  have ha:=F.args_bexc_ga (.ref a) nameV;simp only[checkBuiltinCall,hk,hsplit];refine wpAny_bind ?_;unfold isInstance
  repeat (first | (with_reducible refine wpAny_loadPart_at hx ?_;rw[hc]) | (with_reducible refine wpAny_isSubtype_exc hC ?_;rw[hcB]) | wp_step)
  exact hq
theorem zd6{tk:Tok}{R:Result->Shared->Prop}(X:K.In h)(c:ErrQ K C)(hx:h.get? a=some o)(hc:o.cls=.ref C)(hq:R (.ok (.ret (.ref C))) ⟨h,g,d,t,os⟩) :
    codeAny (model prog w) A (.call (.builtin "BaseException.__getattribute__") ⟨[.ref a,.str "__class__" tk],[]⟩) R ⟨h,g,d,t,os⟩ :=
  codeAny_call_builtin F.attrBase_ValueError.ga.plain F.entry_bexc_ga (zdq X c hx hc (zde X c hx hc hq))
theorem ziy{tk:Tok}{Q:Value->Shared->Prop}(X:K.In h)(c:ErrQ K C)(hx:h.get? a=some o)(hc:o.cls=.ref C)(hq:Q (.ref C) ⟨h,g,d,t,os⟩):wpAny (model prog w) A (getAttrBy (.ref a) (.str "__class__" tk) false) Q E ⟨h,g,d,t,os⟩:=by
  have f3:=F.attrBase_ValueError.ga.bind (.ref a);have L1:=PySem.W.looks_findIn (M:=model prog w) X c.ga;have L2':=PySem.W.looks_findIn (M:=model prog w) X c.gn;have hx2:(Value.builtin "BaseException.__getattribute__" == Value.builtin "object.__getattribute__")=false:=by decide +kernel
  have hx1:(onTheHeap (Value.ref C)&&Value.builtin "BaseException.__getattribute__" == Value.builtin "object.__getattribute__")=false:=by rw[hx2];rfl
  repeat (any_goals (first | assumption | (with_reducible refine wpAny_loadPart_at hx ?_;rw[hc]) | with_reducible refine L1.at ?_ | with_reducible refine L2'.at ?_ | wp_step))
  refine zd6 X c hx hc ?_
  repeat (any_goals (first | assumption | wp_step))
theorem zd8{Q:Option Value->Shared->Prop}(X:K.In h)(c:ErrQ K C)(hx:h.get? a=some o)(hc:o.cls=.ref C)(hq:Q (some (.ref C)) ⟨h,g,d,t+1,os⟩):wpAny (model prog w) A (getAttr? (.ref a) "__class__") Q E ⟨h,g,d,t,os⟩:=by
  unfold getAttr? getAttrBy?
  repeat (any_goals (first | assumption | with_reducible apply ziy X c hx hc | wp_step))
end
def ExcAt(a C:Addr)(h:Heap):Prop:=∃o,h.get? a=some o/\o.cls=.ref C
theorem e8{K:Fg}{a C:Addr}(c:ErrQ K C):PySem.W.KitX K (.ref a) (.ref C) (ExcAt a C) where
  ty:=fun M h X p=>by
    obtain⟨o,h1,h2⟩:=p;exact h2▸(PySem.W.Looks.ld h1).andThen .now
  it:=fun M h X p=>by
    obtain⟨bm,N,nm,q,bs,hdct,sn,sub,ab,col,dd,k0,k1,k2,k3,k5,mN,hC,hN,hni,T,_⟩:=c.obj X;intro A' Q' E' s' k q;unfold isType loadHead;exact wpAny_bind (wpAny_loadPart (k _ _ hC) (wpAny_pure q))
  ne:=fun h tp dd its n sl X htp=>by
    obtain⟨bm,N,nm,q,bs,hdct,sn,sub,ab,col,dd,k0,k1,k2,k3,k5,mN,hC,hN,hni,T,_⟩:=c.obj X;refine Bool.eq_false_iff.mpr fun q => ?_
    have e:C=tp:=Value.ref.inj (beq_iff_eq.mp q);subst e;rw[hC]at htp;have hcl:=congrArg Obj.cls (Option.some.inj htp)
    revert hcl
    show Value.type "type" = Value.type "tuple" -> False
    intro hcl
    injection hcl with hcl
    exact absurd hcl (by decide)
  ca:=fun {_ _ _ _ _ s} X p k=>by
    obtain⟨o,h1,h2⟩:=p;obtain⟨h,g,d,t,os⟩:=s;exact zd8 X c h1 h2 k
section
variable{X:Cx}{pins:List (Addr×Obj)}{σ:St}{H:Hp}{s:Shared}
theorem Inv.exc{ea C:Addr}(I:Inv X pins σ H s)(h:H ea=some (ExcO ea C)):ExcAt ea C s.heap:=by
  have q:ObjOk X.prog X.w H s.heap ea (ExcO ea C):=I.hok ea _ h;obtain⟨⟨o,h1,h2,_⟩,_⟩:=q;exact⟨o,h1,h2⟩
theorem gj:w9 X (.builtin "isinstance") (fun xs H Q=>∃ea C D b,xs=[.ref ea,.ref D]/\H ea=some (ExcO ea C)/\ErrQ X.K C/\PySem.W.kitOne X.K (.ref C) (.ref D)=some b/\Q (.bl b) H):=by
  intro pins s σ H xs us Q I r h;obtain⟨ea,C,D,b,rfl,he,c,e,q⟩:=h;obtain⟨u,v,rfl,rx,ry⟩:=Vals.two r;cases rx;cases ry;exact PySem.W.kia_one (e8 c) I.kIn (I.exc he) e (fun z=>nomatch z) fun tk=>⟨.bl b,H,I.tok _,rfl,q⟩
theorem gp:w9 X (.builtin "isinstance") (fun xs H Q=>∃ea C T b,xs=[.ref ea,.ty T]/\H ea=some (ExcO ea C)/\ErrQ X.K C/\PySem.W.kitOne X.K (.ref C) (.type T)=some b/\Q (.bl b) H):=by
  intro pins s σ H xs us Q I r h;obtain⟨ea,C,D,b,rfl,he,c,e,q⟩:=h;obtain⟨u,v,rfl,rx,ry⟩:=Vals.two r;cases rx;cases ry;exact PySem.W.kia_one (e8 c) I.kIn (I.exc he) e (fun z=>nomatch z) fun tk=>⟨.bl b,H,I.tok _,rfl,q⟩
theorem zbj:∀{Ds:List Addr} {us:List Value},Vals (Ds.map V.ref) us->us=Ds.map Value.ref
  | [],_,.nil=>rfl
  | D::Ds,_,.cons r t=>by
    rw[zbj t];cases r;rfl
theorem ik:w9 X (.builtin "isinstance") (fun xs H Q=>∃(ea C tp:Addr) (Ds:List Addr) (b:Bool),xs=[.ref ea,.ref tp]/\H ea=some (ExcO ea C)/\ErrQ X.K C/\SqT X.K H tp (Ds.map V.ref)/\PySem.W.kitAny X.K (.ref C) (Ds.map Value.ref)=some b/\Q (.bl b) H):=by
  intro pins s σ H xs us Q I r h;obtain⟨ea,C,tp,Ds,b,rfl,he,c,ht,e,q⟩:=h;obtain⟨u,v,rfl,rx,ry⟩:=Vals.two r;cases rx;cases ry;obtain⟨its,rv,⟨o,ho,hc,n,hd⟩,hz⟩:=I.tuple ht;have ei:=zbj rv;subst ei;obtain⟨ocls,odict,odata,oslots⟩:=o;dsimp only at hc hd;subst hc hd;exact PySem.W.kia_tup (e8 c) I.kIn (I.exc he) ho e (fun z=>nomatch z) fun tk=>⟨.bl b,H,I.tok _,rfl,q⟩
end
theorem ie:bootBuiltins "ValueError" = some (.type "ValueError"):=by decide +kernel
theorem mt {K:Fg} {h:Heap} {mg:Str->Option Value} (X:K.In h) (G:h.Ns mainGlobals mg) {name:Str} {C:Addr} (e:PySem.W.nsIn K mainGlobals name=some (some (.ref C))) (q:PySem.W.excIn K C VE "ValueError.__new__" = true)
    (g1:PySem.W.findIn K (.ref C) "__getattribute__" = some (some (.builtin "BaseException.__getattribute__"))) (g2:PySem.W.findIn K (.ref C) "__getattr__" = some none) (g3:PySem.W.findIn K (.ref C) "__class__" = some (some (.builtin "object.__class__"))) :
    mg name=some (.ref C)/\ErrQ K C:=⟨PySem.W.mg_of X G e,⟨⟨q⟩,g1,g2,g3⟩⟩
theorem zdm{K:Fg}{C:Addr}:PySem.W.kitOne K (.ref C) (.ref C)=some true:=by
  unfold PySem.W.kitOne;rw[if_pos (by simp)]
theorem x8 {K:Fg} {C D:Addr} {cd:ClassData} {b:Bool} (h0:(Value.ref C==Value.ref D)=false) (h1:PySem.W.clsIn K D=some cd) (h2:PySem.W.typeIn K (.ref D)=some (.type "type")) (h3:PySem.W.subIn K (.ref C) (.ref D)=some b):PySem.W.kitOne K (.ref C) (.ref D)=some b:=by
  unfold PySem.W.kitOne PySem.W.kitCls;rw[if_neg (by rw[h0];simp)]
  show(if ((PySem.W.clsIn K D).isSome&&PySem.W.typeIn K (.ref D)==some (.type "type"))=true then PySem.W.subIn K (.ref C) (.ref D) else none)=some b
  rw[h1,h2,if_pos (by simp)];exact h3
theorem zes {K:Fg} {C:Addr} {b:Bool} (h3:PySem.W.subIn K (.ref C) (.type "ValueError")=some b):PySem.W.kitOne K (.ref C) (.type "ValueError")=some b:=by
  unfold PySem.W.kitOne PySem.W.kitCls;rw[if_neg (by simp)]
  show(if PySem.W.kitMeta "ValueError" = true then PySem.W.subIn K (.ref C) (.type "ValueError") else none)=some b
  rw[if_pos (by decide +kernel)];exact h3
def zhs(K:Fg)(C:Addr):List Addr->Prop
  | []=>True
  | D::Ds=>PySem.W.kitOne K (.ref C) (.ref D)=some false/\zhs K C Ds
theorem ko{K:Fg}{C:Addr}:∀{Ds:List Addr},zhs K C Ds->PySem.W.kitAny K (.ref C) (Ds.map Value.ref)=some false
  | [],_=>rfl
  | D::Ds,h=>by
    show PySem.W.kitAny K (.ref C) (Value.ref D::Ds.map Value.ref)=some false
    unfold PySem.W.kitAny;rw[h.1];exact ko h.2
theorem Same.seqT{K:Fg}{H H':Hp}{a:Addr}{xs:List V}(e:Same H H')(h:SqT K H a xs):SqT K H' a xs:=by
  rcases h with (h | ⟨o,h⟩) | h
  . exact .inl (.inl (e _ _ h))
  . exact .inl (.inr ⟨o,e _ _ h⟩)
  . exact .inr h
end L2
namespace L2
open PySem PySem.Spec PyProof.Rows
inductive Tr where
  | lf (v:V) | ls (ts:List Tr) | tp (ts:List Tr)
mutual
def TrAt(K:Fg)(H:Hp):Tr->V->Prop
  | .lf v,x=>x=v/\xk v=true
  | .ls ts,x=>∃a xs,x=.ref a/\SqL K H a xs/\bd K H ts xs
  | .tp ts,x=>∃a xs,x=.ref a/\SqT K H a xs/\bd K H ts xs
def bd(K:Fg)(H:Hp):List Tr->List V->Prop
  | [],xs=>xs=[]
  | t::ts,xs=>∃y ys,xs=y::ys/\TrAt K H t y/\bd K H ts ys
end
mutual
def eqTr:Tr->Tr->Bool
  | .lf v,.lf w=>eqV v w
  | .ls ts,.ls us=>zfv ts us
  | .tp ts,.tp us=>zfv ts us
  | _,_=>false
def zfv:List Tr->List Tr->Bool
  | [],[]=>true
  | t::ts,u::us=>eqTr t u&&zfv ts us
  | _,_=>false
end
mutual
def deep:Tr->Nat
  | .lf _=>0
  | .ls ts=>bf ts+1
  | .tp ts=>bf ts+1
def bf:List Tr->Nat
  | []=>0
  | t::ts=>max (deep t) (bf ts)
end
section
variable{X:Cx}{pins:List (Addr×Obj)}{σ:St}{H:Hp}{s:Shared}
end
section
variable{X:Cx}
def SameK:Tr->Tr->Prop
  | .ls _,.ls _=>True
  | .tp _,.tp _=>True
  | _,_=>False
def rEqD(K:Fg)(n:Nat)(neg:Bool)(x y:V)(H:Hp)(Q:VK):Prop:=∃t t',SameK t t'/\TrAt K H t x/\TrAt K H t' y/\deep t<=n/\deep t'<=n/\Q (.bl (neg ^^ eqTr t t')) H
end
section
variable{X:Cx}{pins:List (Addr×Obj)}{σ:St}{H:Hp}{s:Shared}
open Classical in
end
section
variable{X:Cx}
def inTr(t:Tr)(ts:List Tr):Bool:=ts.any fun u=>eqTr u t
def rInD(K:Fg)(n:Nat)(neg:Bool):R2:=fun x y H Q=>∃p xs ts t,y=.ref p/\(SqL K H p xs\/SqT K H p xs)/\bd K H ts xs/\TrAt K H t x/\deep t<=n/\bf ts<=n/\Q (.bl (neg ^^ inTr t ts)) H
end
theorem e_eqD{K:Fg}{n:Nat}{neg:Bool}{x y:V}{H:Hp}{Q:VK}:rEqD K n neg x y H Q=∃t t',SameK t t'/\TrAt K H t x/\TrAt K H t' y/\deep t<=n/\deep t'<=n/\Q (.bl (neg ^^ eqTr t t')) H:=rfl
theorem e_inD{K:Fg}{n:Nat}{neg:Bool}{x y:V}{H:Hp}{Q:VK}:rInD K n neg x y H Q=∃p xs ts t,y=.ref p/\(SqL K H p xs\/SqT K H p xs)/\bd K H ts xs/\TrAt K H t x/\deep t<=n/\bf ts<=n/\Q (.bl (neg ^^ inTr t ts)) H:=rfl
end L2
namespace L2
open PySem PySem.Spec PyProof.Rows
def chr1(c:Nat):Str:=⟨#[c]⟩
def Itw(x:Str):It:=⟨fun i _=>i<x.cps.size,fun i H v H'=>H'=H/\∃c,x.cps[i]? = some c/\v=.str (chr1 c),fun i _=>x.cps.size<=i⟩
theorem zh0{P:Program}{w:World}{K:Fg}{tg:Expr}(it:Addr)(x:Str)(t:Tok):Turn P w K tg (Itw x) [it] it (fun i h=>h.IsStrIter it "str_ascii_iterator" x t i) where
  mem:=by simp
  obj:=fun i h st b hb=>by
    have e:b=it:=by simpa using hb
    subst e;obtain⟨o,e,c,d⟩:=st;exact⟨o,e,fun v z=>by rw[d]at z;cases z⟩
  keep:=fun i h h' st k=>by
    obtain⟨o,e,r⟩:=st;exact⟨o,k it (by simp) o e,r⟩
  item:=by
    intro X hP hw hK hc i pins s σ H E I hf st hg;subst hP hw hK;have hi:i<x.cps.size:=hg;obtain⟨f0,f1,f2,f3,f4,f5⟩:=hf it (by simp);refine wpAny_pyNext_ascii_item st (c:=x.cps[i]) (by simp[hi]) fun h' st' sb => ?_
    have I1:Inv X pins σ H { s with heap:=h',toks:=s.toks+1 }:=I.turned (t':=s.toks+1) (fun b o hb e=>(sb.2 b hb).trans e) f0 f1 f3 f4 f5;obtain⟨o,e,c,d⟩:=id st';exact⟨_,rfl,bu (s:={ s with heap:=h',toks:=s.toks+1 }) e c d (by decide) ⟨.str (chr1 x.cps[i]),H,I1,⟨_,rfl⟩,⟨rfl,_,by simp[hi],rfl⟩,st',fun b hb=>(hf b hb).1⟩⟩
  done:=by
    intro X hP hw hK hc i pins s σ H E I hf st hg;subst hP hw hK;have hi:x.cps.size<=i:=hg;obtain⟨f0,f1,f2,f3,f4,f5⟩:=hf it (by simp);exact wpAny_pyNext_ascii_end (I.ok.hd hc) st (by simp[hi]) fun h' eb=>⟨rfl,I.turned (t':=s.toks) (fun b o hb e=>eb b o hb e) f0 f1 f3 f4 f5⟩
  self:=fun _ _ _ _ _ st h=>wpAny_pyIter_striter_ascii st h
theorem zi0{P:Program}{w:World}{K:Fg}{tg:Expr}(it:Addr)(x:Str)(t:Tok):Turn P w K tg (Itw x) [it] it (fun i h=>h.IsStrIter it "str_iterator" x t i) where
  mem:=by simp
  obj:=fun i h st b hb=>by
    have e:b=it:=by simpa using hb
    subst e;obtain⟨o,e,c,d⟩:=st;exact⟨o,e,fun v z=>by rw[d]at z;cases z⟩
  keep:=fun i h h' st k=>by
    obtain⟨o,e,r⟩:=st;exact⟨o,k it (by simp) o e,r⟩
  item:=by
    intro X hP hw hK hc i pins s σ H E I hf st hg;subst hP hw hK;have hi:i<x.cps.size:=hg;obtain⟨f0,f1,f2,f3,f4,f5⟩:=hf it (by simp);refine wpAny_pyNext_wide_item st (c:=x.cps[i]) (by simp[hi]) fun h' st' sb => ?_
    have I1:Inv X pins σ H { s with heap:=h',toks:=s.toks+1 }:=I.turned (t':=s.toks+1) (fun b o hb e=>(sb.2 b hb).trans e) f0 f1 f3 f4 f5;obtain⟨o,e,c,d⟩:=id st';exact⟨_,rfl,bu (s:={ s with heap:=h',toks:=s.toks+1 }) e c d (by decide) ⟨.str (chr1 x.cps[i]),H,I1,⟨_,rfl⟩,⟨rfl,_,by simp[hi],rfl⟩,st',fun b hb=>(hf b hb).1⟩⟩
  done:=by
    intro X hP hw hK hc i pins s σ H E I hf st hg;subst hP hw hK;have hi:x.cps.size<=i:=hg;obtain⟨f0,f1,f2,f3,f4,f5⟩:=hf it (by simp);exact wpAny_pyNext_wide_end (I.ok.hd hc) st (by simp[hi]) fun h' eb=>⟨rfl,I.turned (t':=s.toks) (fun b o hb e=>eb b o hb e) f0 f1 f3 f4 f5⟩
  self:=fun _ _ _ _ _ st h=>wpAny_pyIter_striter_wide st h
def iStr(a:TE):TI:=fun σ H R=>a σ H fun x H1=>∃z,x=.str z/\R (Itw z) H1
theorem zik{X:Cx}{tg l:Expr}{tl:TE}(hl:PE X l tl):PI X tg l (iStr tl):=by
  intro pins s σ H R I h;refine thn (hl pins s σ H _ I h) fun v s1 ⟨x,H1,I1,r1,q1⟩ => ?_
  obtain⟨z,e,q⟩:=q1;subst e;obtain⟨t,rfl⟩:=r1;refine wpAny_pyIter_strU ?_
  have fin:∀{tn:Nat->Heap->Prop},Turn X.prog X.w X.K tg (Itw z) [s1.heap.objs.size] s1.heap.objs.size tn->tn 0 (s1.heap.push { cls:=.type (strIterType z),data:=.fields #[.str z t,.int 0 0] }) ->
      PIE X pins σ tg R (.ref s1.heap.objs.size) { s1 with heap:=s1.heap.push { cls:=.type (strIterType z),data:=.fields #[.str z t,.int 0 0] } }:=fun {tn} T h0=>by
    refine⟨s1.heap.objs.size,[s1.heap.objs.size],_,_,H1,rfl,I1.kept (t':=s1.toks) fun b o e=>Heap.get?_push_of_some _ e,T,h0,fun b hb => ?_,q⟩;have e:b=s1.heap.objs.size:=by simpa using hb
    subst e;exact I1.fpOk (Zm _) (I1.hok.fresh (Zm _))
  cases ha:z.cps.all (· < 128) with
  | true =>
    have e:strIterType z = "str_ascii_iterator" := by simp[strIterType,ha]
    refine fin (zh0 _ z t) ?_;exact⟨_,Heap.get?_push_size _ rfl,by rw[e],rfl⟩
  | false =>
    have e:strIterType z = "str_iterator" := by simp[strIterType,ha]
    refine fin (zi0 _ z t) ?_;exact⟨_,Heap.get?_push_size _ rfl,by rw[e],rfl⟩
theorem e_iStr{a:TE}{σ:St}{H:Hp}{R:It->Hp->Prop}:iStr a σ H R=a σ H fun x H1=>∃z,x=.str z/\R (Itw z) H1:=rfl
def xw(z:Str)(n:Nat):Str:=⟨(List.replicate n z.cps.toList).flatten.toArray⟩
theorem zha:∀(n:Nat) (a acc:Array Nat),(List.replicate n a).foldl (· ++ ·) acc=acc++(List.replicate n a.toList).flatten.toArray:=by
  intro n
  induction n with
  | zero=>intro a acc;simp
  | succ n ih =>
    intro a acc;rw[YG,Xb,ih,YG,List.flatten_cons]
    apply Array.ext'
    simp
theorem mul_is(z:Str)(n:Int):Txt.mul z n=xw z n.toNat:=by
  unfold Txt.mul xw
  by_cases h:n<1
  . rw[if_pos h,show n.toNat=0 by omega];rfl
  . rw[if_neg h]
    by_cases h2:(n==1||z.length==0)=true
    . rw[if_pos h2]
      rcases Bool.or_eq_true _ _▸h2 with q | q
      . have:n=1:=by simpa using q
        subst this
        show z=_
        have:(1:Int).toNat=1:=rfl;rw[this];simp
      . have e:z.cps.size=0:=by simpa[Str.length] using q
        have e2:z.cps = #[]:=Array.eq_empty_of_size_eq_zero e;obtain⟨c⟩:=z;simp only at e2;subst e2;simp
    . rw[if_neg h2,zha]
      simp
section
variable{X:Cx}
def rMulS:R2:=fun x y H Q=>∃z n,x=.str z/\y=.int n /\ -(2^62)<=n/\n<2^31/\z.length*n.toNat<=2^20/\Q (.str (xw z n.toNat)) H
theorem zaf:OpR X (binaryOp .Mult) rMulS:=by
  intro pins s σ H x y v u Q I rx ry h;obtain⟨z,n,rfl,rfl,h1,h2,h3,q⟩:=h;obtain⟨t,rfl⟩:=rx;obtain⟨t',rfl⟩:=ry;refine SB.mul ⟨?_,fun h4 h5 => ?_,fun h4 h5 => ?_⟩ fun tk k => ?_
  . rw[decide_eq_false (by omega),decide_eq_false (by omega)];rfl
  . intro h6
    have h7:(z.length:Int)*n<=2^20:=by
      have:((z.length*n.toNat:Nat):Int)<=((2^20:Nat):Int):=by exact_mod_cast h3
      rw[Int.natCast_mul,Yt (by omega)]at this;exact this
    have h8:(2^63-1:Int)/n*n<=z.length*n:=Int.mul_le_mul_of_nonneg_right (by omega) (by omega);have h9:=Int.emod_add_mul_ediv (2^63-1:Int) n;have h10:(2^63-1:Int) % n<n:=YQ _ (by omega);rw[Int.mul_comm]at h8;omega
  . have:z.length*n.toNat<=sizeLine:=Zd h3 (by decide)
    show decide (z.length*n.toNat > sizeLine)=false
    exact decide_eq_false (by omega)
  . rw[mul_is]
    exact⟨.str (xw z n.toNat),H,I.tok _,⟨_,rfl⟩,q⟩
theorem e_mulS{x y:V}{H:Hp}{Q:VK}:rMulS x y H Q=∃z n,x=.str z/\y=.int n /\ -(2^62)<=n/\n<2^31/\z.length*n.toNat<=2^20/\Q (.str (xw z n.toNat)) H:=rfl
end
theorem hu9{A:Around}{k:Nat}(hr:Room k A):A.units+1+8<=cLine:=by have:=hr.un;omega
theorem e_ixS{x y:V}{H:Hp}{Q:VK}:rIxS x y H Q=∃z i c,x=.str z/\y=.int i/\z.length<=sizeLine/\atI z.cps.toList i=some c/\Q (.str ⟨#[c]⟩) H:=rfl
theorem e_iT{K:Fg}{a:TE}{σ:St}{H:Hp}{R:It->Hp->Prop}:iTup K a σ H R=a σ H fun x H1=>∃p,x=.ref p/\(∃xs,SqT K H1 p xs)/\R (Itt K p) H1:=rfl
theorem aq:∀{texts:List Str} {us:List Value},Vals (texts.map V.str) us->∃l:List (Str×Tok),us=strValues l/\l.map (·.1)=texts
  | [],_,.nil=>⟨[],rfl,rfl⟩
  | x::texts,_,.cons r t=>by
    obtain⟨tk,rfl⟩:=r;obtain⟨l,e1,e2⟩:=aq t;exact⟨(x,tk)::l,by rw[e1];rfl,by rw[ZM,e2]⟩
section
variable{X:Cx}
def rJoin(K:Fg):V->List V->Hp->VK->Prop:=fun x vs H Q=>∃sep b texts,x=.str sep/\vs=[.ref b]/\SqL K H b (texts.map V.str)/\JoinOk sep texts=true/\Q (.str (Txt.join sep texts)) H
theorem mi:MtM X "str.join" (rJoin X.K):=by
  intro pins s σ H x vs v us Q I rx rv h;obtain⟨sep,b,texts,rfl,rfl,hs,hok,q⟩:=h;obtain⟨t,rfl⟩:=rx;obtain⟨u,rfl,ru⟩:=rv.one;cases ru;obtain⟨its,r,pl,hz⟩:=I.list hs;obtain⟨l,e1,e2⟩:=aq r;subst e1;exact SC.join pl.isList e2 hok fun t' k=>⟨.str (Txt.join sep texts),H,I.tok _,⟨_,rfl⟩,q⟩
theorem e_join{K:Fg}{x:V}{vs:List V}{H:Hp}{Q:VK}:rJoin K x vs H Q=∃sep b texts,x=.str sep/\vs=[.ref b]/\SqL K H b (texts.map V.str)/\JoinOk sep texts=true/\Q (.str (Txt.join sep texts)) H:=rfl
end
section
variable{σ:St}{k:Nat}{g:TG}{tt:TT}{te:TE}{H1:Hp}{Fin:List V->Hp->Prop}
theorem zcr{K:Fg}{a:Addr}{xs:List V}(Pv:Nat->List V->Hp->Prop)(h0:Pv 0 [] H1)(hz:∀i ys H,i<=xs.length->Pv i ys H->ys.length<=sizeLine/\SqT K H a xs)
    (hs:∀i x ys H,xs[i]? = some x->Pv i ys H->g x (List.replicate k none++σ) H fun σ2 H2=>σ2.drop k=σ/\tt σ2 H2 fun b H3=>if b=true then te σ2 H3 fun v H4=>Pv (i+1) (ys++[v]) H4 else Pv (i+1) ys H3)
    (hd:∀ys H,Pv xs.length ys H->Fin ys H):ra (Itt K a) σ k g tt te H1 Fin:=by
  refine⟨fun i m ys H=>m=xs.length-i/\i<=xs.length/\Pv i ys H,⟨xs.length,by simp,ZE _,h0⟩,?_⟩
  rintro i m ys H ⟨rfl,hi,p⟩
  have q:=(hz i ys H hi p).2;refine⟨(hz i ys H hi p).1,?_⟩
  by_cases hlt:i<xs.length
  . refine .inr ⟨⟨xs,xs[i],q,by simp[hlt]⟩,Pv (i+1),fun ys' H' p'=>⟨xs.length-(i+1),by omega,rfl,hlt,p'⟩,fun x H' y => ?_⟩
    obtain⟨e,y⟩:=y;subst e;exact hs i x ys _ (y xs q) p
  . have e:i=xs.length:=by omega
    subst e;exact .inl ⟨⟨xs,q,Zm _⟩,hd ys H p⟩
end
theorem zk{e:Expr}{es:List Expr}{env:Env}(h:∀e' p,e≠.Starred e' p):starEach (e::es) env=(false,eval e env)::starEach es env:=by
  cases e <;> first | rfl | exact absurd rfl (h _ _)
def iSeq(K:Fg)(tl:TE):TI:=fun σ H R=>tl σ H fun x H1=>∃a,x=.ref a/\(((∃xs,SqL K H1 a xs)/\R (Itl K a) H1)\/((∃xs,SqT K H1 a xs)/\R (Itt K a) H1))
theorem pi_seq{X:Cx}{tg l:Expr}{tl:TE}(hl:PE X l tl):PI X tg l (iSeq X.K tl):=by
  intro pins s σ H R I h;refine thn (hl pins s σ H _ I h) fun v s1 ⟨x,H1,I1,r1,q1⟩ => ?_
  obtain⟨a,e,q⟩:=q1;subst e;cases r1
  rcases q with ⟨⟨xs,hq⟩,q⟩ | ⟨⟨xs,hq⟩,q⟩
  . obtain⟨its,rv,p,hz⟩:=I1.list hq
    refine wpAny_pyIter_list p.isList ?_;refine⟨s1.heap.objs.size,[s1.heap.objs.size],_,_,H1,rfl,I1.kept (t':=s1.toks) fun b o e=>Heap.get?_push_of_some _ e,za8 a _,⟨_,Heap.get?_push_size _ rfl,rfl,rfl⟩,fun b hb => ?_,q⟩;have e:b=s1.heap.objs.size:=by simpa using hb
    subst e;exact I1.fpOk (Zm _) (I1.hok.fresh (Zm _))
  . obtain⟨its,rv,p,hz⟩:=I1.tuple hq
    refine wpAny_pyIter_tuple (show s1.heap.IsTuple a its.toArray from p) ?_;refine⟨s1.heap.objs.size,[s1.heap.objs.size],_,_,H1,rfl,I1.kept (t':=s1.toks) fun b o e=>Heap.get?_push_of_some _ e,bp a _,⟨_,Heap.get?_push_size _ rfl,rfl,rfl⟩,fun b hb => ?_,q⟩;have e:b=s1.heap.objs.size:=by simpa using hb
    subst e;exact I1.fpOk (Zm _) (I1.hok.fresh (Zm _))
theorem e_iSeq{K:Fg}{tl:TE}{σ:St}{H:Hp}{R:It->Hp->Prop}:iSeq K tl σ H R=tl σ H fun x H1=>∃a,x=.ref a/\(((∃xs,SqL K H1 a xs)/\R (Itl K a) H1)\/((∃xs,SqT K H1 a xs)/\R (Itt K a) H1)):=rfl
section
variable{X:Cx}
def rTupL(K:Fg):List V->Hp->VK->Prop:=fun xs H Q=>∃p ys,xs=[.ref p]/\SqL K H p ys/\∀l,H l=none->Q (.ref l) (upd H l (.tup ys))
theorem sw:w9 X (.type "tuple") (rTupL X.K):=fun pins s σ H xs us Q I r h=>by
  obtain⟨p,ys,e,hq,q⟩:=h;exact zbs pins s σ H xs us Q I r ⟨p,ys,e,.inl ⟨hq,q⟩⟩
theorem e_tupL{K:Fg}{xs:List V}{H:Hp}{Q:VK}:rTupL K xs H Q=∃p ys,xs=[.ref p]/\SqL K H p ys/\∀l,H l=none->Q (.ref l) (upd H l (.tup ys)):=rfl
end
end L2
namespace L2
open PySem PySem.Spec PyProof.Rows
section
variable{X:Cx}
def rMinL(K:Fg)(xs:List V)(H:Hp)(Q:VK):Prop:=∃(p:Addr) (ns:List Int),xs=[.ref p]/\SqL K H p (ns.map V.int)/\0<ns.length/\∀m,m∈ns->(∀a∈ns,m<=a)->Q (.int m) H
def rMaxL(K:Fg)(xs:List V)(H:Hp)(Q:VK):Prop:=∃(p:Addr) (ns:List Int),xs=[.ref p]/\SqL K H p (ns.map V.int)/\0<ns.length/\∀m,m∈ns->(∀a∈ns,a<=m)->Q (.int m) H
theorem e_minL{K:Fg}{xs:List V}{H:Hp}{Q:VK}:rMinL K xs H Q=∃(p:Addr) (ns:List Int),xs=[.ref p]/\SqL K H p (ns.map V.int)/\0<ns.length/\∀m,m∈ns->(∀a∈ns,m<=a)->Q (.int m) H:=rfl
theorem e_maxL{K:Fg}{xs:List V}{H:Hp}{Q:VK}:rMaxL K xs H Q=∃(p:Addr) (ns:List Int),xs=[.ref p]/\SqL K H p (ns.map V.int)/\0<ns.length/\∀m,m∈ns->(∀a∈ns,a<=m)->Q (.int m) H:=rfl
theorem zax(hc:X.calm=true):w9 X (.builtin "max") (rMaxL X.K):=by
  intro pins s σ H xs us Q I r h;obtain⟨p,ns,rfl,hq,hne,q⟩:=h;obtain⟨u,rfl,rx⟩:=Vals.one r;cases rx;obtain⟨its,rv,pl,hz⟩:=I.list hq;have hi:IntsAre its ns:=zf4 rv;obtain⟨zs,hx⟩:=hi.allInts.items;have hl':s.heap.IsList p (intItems zs):=hx▸pl.isList
  have hns:ns=zs.toList.map (·.1):=by
    rw[<-nums_intItems,<-hx];exact(show numsOf its.toArray.toList=ns from hi.numsOf).symm
  have hsz:0<zs.size:=by
    have h3:=hne;rw[hns,Za,Yj]at h3;exact h3
  refine max_intList (I.ok.hd hc) hl' hsz fun v h' tk hv hk => ?_
  obtain⟨t,rfl⟩:=intItems_at hv;obtain⟨h1,h2⟩:=argBest_gt (numAt zs) (zs.size-1);refine⟨V.int _,H,I.kept hk,⟨_,rfl⟩,q _ ?_ fun a ha => ?_⟩
  . rw[hns,numAt_eq];exact getD_mem (by rw[Za,Yj];omega)
  . rw[hns]at ha
    obtain⟨j,hj,rfl⟩:=mem_getD ha;rw[Za,Yj]at hj;rw[<-numAt_eq];exact h2 j (by omega)
end
end L2
namespace L2
open PySem PySem.Spec PyProof.Rows
section
variable{prog:Program}{w:World}{A:Around}{E:Value->Shared->Prop}{s:Shared}
end
section
variable{X:Cx}
end
end L2
namespace L2
open PySem PySem.Spec PyProof.Rows
def seen(val:Nat->Str):Nat->List Str
  | 0=>[]
  | i+1=>if val i∈seen val i then seen val i else seen val i++[val i]
theorem zc9(val:Nat->Str):∀i,(seen val i).length<=i
  | 0=>Zm _
  | i+1=>by
    have:=zc9 val i;unfold seen
    split
    . omega
    . rw[Zo,Yd];omega
theorem zkd(val:Nat->Str)(i:Nat)(k:Str):(decide (k∈seen val i)||decide (k=val i))=decide (k∈seen val (i+1)):=by
  conv=>rhs;unfold seen
  split
  . rename_i h
    by_cases e:k=val i
    . subst e;simp[h]
    . simp[e]
  . simp
theorem zgm(val:Nat->Str)(i:Nat):(if decide (val i∈seen val i)=true then(seen val i).length else(seen val i).length+1)=(seen val (i+1)).length:=by
  conv=>rhs;unfold seen
  by_cases h:val i∈seen val i
  . simp[h]
  . simp[h]
section
variable{prog:Program}{w:World}{A:Around}{R:Result->Shared->Prop}{I:Addr}{fp wr:List Addr}{G:Array GenState->Array GenState->Prop}{n:Nat}{P:Nat->Value->Prop}{St:Nat->Shared->Prop}
theorem zch(W:WalksS prog w A.in1 I fp wr G n P St)(T:Addr)(hT:T∉fp)(val:Nat->Str)(hval:∀i v,P i v->∃t,v=.str (val i) t)(hb:n+1<scanBound) :
    ∀(k i:Nat) (s:Shared),n-i=k->i<=n->St i s->s.heap.SetOf (PySem.strKind prog w) T (fun k'=>decide (k'∈seen val i)) (seen val i).length ->
      (∀s',Moved (T::wr) G s s'->s'.heap.SetOf (PySem.strKind prog w) T (fun k'=>decide (k'∈seen val n)) (seen val n).length->R (.ok (.ret .none)) s') ->
      codeAny (model prog w) A (.builtin "set.update.loop" ⟨[.ref T,.ref I],[]⟩) R s:=by
  have hTw:T∉wr:=fun h=>hT (W.sub _ h)
  have sub:∀b∈wr,b∈T::wr:=fun b h=>Zv _ h
  intro k
  induction k with
  | zero =>
    intro i s hk hi hst hS hR;obtain rfl:i=n:=by omega
    refine codeAny_builtin PyProof.Rows.F.entry_set_update_loop ?_;rw[Around.under_plainId PyProof.Rows.F.plain_set_update_loop _]
    show wpAny _ A.in1 (pyNext (.ref I) >>= _) _ _ s
    refine wpAny_bind (W.done s _ _ hst fun s' hm => ?_);refine wpAny_pure (hR s' (hm.mono sub) ?_);obtain⟨o,es,ep,t,ho,r⟩:=hS;exact⟨o,es,ep,t,hm.heap T _ hTw ho,r⟩
  | succ k ih =>
    intro i s hk hi hst hS hR;have hlt:i<n:=by omega
    refine codeAny_builtin PyProof.Rows.F.entry_set_update_loop ?_;rw[Around.under_plainId PyProof.Rows.F.plain_set_update_loop _]
    show wpAny _ A.in1 (pyNext (.ref I) >>= _) _ _ s
    refine wpAny_bind (W.item i s _ _ hlt hst fun v s' hP hst' hm => ?_);obtain⟨t,rfl⟩:=hval i v hP
    have hS':s'.heap.SetOf (PySem.strKind prog w) T (fun k'=>decide (k'∈seen val i)) (seen val i).length:=by
      obtain⟨o,es,ep,tb,ho,r⟩:=hS;exact⟨o,es,ep,tb,hm.heap T _ hTw ho,r⟩
    show wpAny _ A.in1 (holding [Value.str (val i) t] (setAdd T (.str (val i) t)) >>= _) _ _ s'
    refine wpAny_bind (wpAny_holding ?_);unfold setAdd;refine wpAny_holding (wpAny_bind ((PySem.strKind prog w).pyHash (k:=val i) (strKind_is _ _ _ _) ?_));have room:(seen val i).length+1<scanBound:=by have:=zc9 val i;omega
    refine wpAny_setAddHashed_of (knd:=PySem.strKind prog w) (s:={ s' with toks:=s'.toks+1 }) (strKind_is _ _ _ _) rfl hS' room fun h' hsb hS2 => ?_
    have hSi:h'.SetOf (PySem.strKind prog w) T (fun k'=>decide (k'∈seen val (i+1))) (seen val (i+1)).length:=by
      have e1:=zgm val i;have e2:(fun k'=>decide (k'∈seen val (i+1)))=fun k'=>(decide (k'∈seen val i)||decide (k'=val i)):=funext fun k'=>(zkd val i k').symm
      rw[<-e1,e2];exact hS2
    refine wpAny_pure ⟨plainId_quiet PyProof.Rows.F.plain_set_update_loop _,ih (i+1) _ (by omega) hlt (W.frame _ s' _ _ hst' (YN _) fun b hb o e => ?_) hSi fun s2 hm2 hS2' => ?_⟩
    . rw[hsb.2 b (fun z:b=T=>hT (z▸hb))];exact e
    . refine hR s2 (Moved.trans W.gtrans ((hm.mono sub).then_heap (YN _) fun b o hb e => ?_) hm2) hS2'
      rw[hsb.2 b (fun z:b=T=>hb (z▸ZA))];exact e
end
abbrev setO(led:Bool):Obj:={ cls:=.type "set", dict:=none,data:=.set #[] 0 (.fresh 0 0 led) }
section
variable{prog:Program}{w:World}{A:Around}{E:Value->Shared->Prop}{s:Shared}
def zeq(prog:Program)(w:World)(s:Shared)(val:Nat->Str)(n:Nat)(h':Heap):Prop :=
  h'.SetOf (PySem.strKind prog w) s.heap.objs.size (fun k'=>decide (k'∈seen val n)) (seen val n).length/\∀b o,b<s.heap.objs.size->s.heap.get? b=some o->h'.get? b=some o
set_option maxHeartbeats 3200000 in
theorem zbw{l:Addr}{items:Array Value}{val:Nat->Str}{Q:Value->Shared->Prop}(hh:A.handled=none)(hl:s.heap.IsList l items)(hv:∀(i:Nat) v,items[i]? = some v->∃t,v=.str (val i) t)(hb:items.size+1<scanBound)
    (h:∀(h':Heap) (tk:Nat),zeq prog w s val items.size h'->Q (.ref s.heap.objs.size) { s with heap:=h',toks:=tk }):wpAny (model prog w) A (call (.type "set") [.ref l]) Q E s:=by
  obtain⟨c,tl,hmro⟩:=F.called_set.mro;have hmade:=F.called_set.made;have hsub:=F.called_set.sub;refine wpAny_call (codeAny_of_tree ?_)
  show wpAny _ _ (callAny (.type "set") _) _ _ _
  refine wpAny_pure ⟨Code.quiet_builtin _ (by decide +kernel),codeAny_builtin F.entry_type_call ?_⟩;rw[Around.under_plain (weight_type_call_type "set" [.ref l] []) rfl];have h1:=F.called_set.notType;have h2:=F.called_set.canCreate;have hct:=F.typeCall_set_1 (.ref l)
  repeat (any_goals (first | assumption | wp_step))
  refine codeAny_mono (code_set_new_1 (.ref l) (E:=E) (Q₁:=fun obj s₁=>∃led:Bool,obj=.ref s.heap.objs.size/\s₁={ s with heap:=s.heap.push (setO led) }) fun led=>⟨led,rfl,rfl⟩) fun r s₁ hr => ?_
  match r,hr with
  | .error e,hr=>exact hr
  | .ok .next,hr=>exact hr.elim
  | .ok .brk,hr=>exact hr.elim
  | .ok .cont,hr=>exact hr.elim
  | .ok (.ret obj),hr =>
    obtain⟨led,rfl,rfl⟩:=hr;have hS:(s.heap.push (setO led)).get? s.heap.objs.size=some (setO led):=Heap.get?_push_size _ rfl;have hT:Shared.TypeIs { s with heap:=s.heap.push (setO led) } (.ref s.heap.objs.size) "set" := ⟨_,hS,rfl⟩;have hli:=F.called_set.init.lookup;have hbi:=F.called_set.init.bind (.ref s.heap.objs.size)
    repeat (any_goals (first | assumption | wp_step))
    refine codeAny_mono (codeAny_call_builtin (R:=wants (fun r s₂=>r=.none/\∃h' tk,s₂={ s with heap:=h',toks:=tk }/\zeq prog w s val items.size h') E) F.called_set.init.plain F.entry_set_init (check_set_init_1 hT ?_)) fun r₂ s₂ hr₂ => ?_
    . obtain⟨ol,hol,hcl,nl,hdl⟩:=id hl
      have hl1:(s.heap.push (setO led)).IsList l items:=hl.push _;obtain⟨ocls,odict,odata,oslots⟩:=ol;simp only at hcl hdl;subst hcl;subst hdl;have hol':(s.heap.push (setO led)).get? l=some { cls:=.type "list", dict:=odict,data:=.seq items nl,slots:=oslots }:=Heap.get?_push_of_some _ hol;have hsls:=F.sub_list_set;have hslf:=F.sub_list_frozenset;have hne:(Value.type "list" == Value.type "dict")=false:=by decide
      unfold Builtin.«set.__init__» noKeywords Builtin.Frozenset.updateFrom;generalize hPI:pyIter=PI
      wp_walk
      subst hPI;refine wpAny_pyIter_list hl1 ?_;refine wpAny_bind (wpAny_runValue ?_);have hlS:l<s.heap.objs.size:=Heap.lt_size hol;have hsz:(s.heap.push (setO led)).objs.size=s.heap.objs.size+1:=size_push' ..;have hneI:l≠(s.heap.push (setO led)).objs.size:=by rw[hsz];exact Zs (YA hlS)
      have hSf:s.heap.objs.size∉[(s.heap.push (setO led)).objs.size,l]:=by
        rw[hsz];simp only[ZK,Zx,or_false,not_or];exact⟨Zs (Yr _),Yb hlS⟩
      refine zch ((Walks.list (by simp[hh]) _ l hneI items).toS) s.heap.objs.size hSf val hv hb (items.size-0) 0 _ (by omega) (ZE _) ⟨⟨_,Heap.get?_push_size _ rfl,rfl,rfl⟩,hl1.push _⟩ ?_ ?_
      . have hget:((s.heap.push (setO led)).push { cls:=.type "list_iterator", data:=.fields #[.ref l,.int 0 0] }).get? s.heap.objs.size=some (setO led):=Heap.get?_push_of_some _ hS
        exact(PyProof.Rows.setObjOf_fresh (knd:=PySem.strKind prog w) led).setOf hget (by unfold scanBound;omega)
      . intro s' hm hS'
        rw[Moved.eq_with hm];refine wpAny_pure ?_;refine wpAny_pure ⟨rfl,s'.heap,s'.toks,rfl,hS',fun b o hb e=>hm.heap b o ?_ (Heap.get?_push_of_some _ (Heap.get?_push_of_some _ e))⟩;rw[hsz];simp only[ZK,Zx,or_false,not_or];exact⟨Zs hb,Zs (YA hb)⟩
    . match r₂,hr₂ with
      | .error e,hr₂=>exact hr₂
      | .ok .next,hr₂=>exact hr₂.elim
      | .ok .brk,hr₂=>exact hr₂.elim
      | .ok .cont,hr₂=>exact hr₂.elim
      | .ok (.ret r),hr₂ =>
        obtain⟨rfl,h',tk,rfl,hd⟩:=hr₂
        repeat (any_goals (first | assumption | wp_step))
        exact h _ _ hd
end
end L2
namespace L2
open PySem PySem.Spec PyProof.Rows
theorem zke{zs:List Str}{us:List Value}(r:Vals (zs.map V.str) us)(i:Nat)(v:Value)(h:us[i]? = some v):∃t,v=.str (zs.getD i ⟨#[]⟩) t:=by
  have hl:=r.length;rw[Za]at hl;have hi:i<zs.length:=by rw[hl];exact(Zc.mp h).1
  obtain⟨u,hu,ru⟩:=r.get (i:=i) (x:=V.str zs[i]) (by simp[hi]);rw[h]at hu;cases hu;obtain⟨t,rfl⟩:=ru;exact⟨t,by simp[Zk,hi]⟩
section
variable{X:Cx}
def zfg(K:Fg)(t:TA):TE:=fun σ H Q=>t σ H fun vs H1=>∃(p:Addr) (zs:List Str),vs=[.ref p]/\SqL K H1 p (zs.map V.str)/\zs.length<=1000/\Q (.int (seen (fun i=>zs.getD i ⟨#[]⟩) zs.length).length) H1
theorem zjw{K:Fg}{t:TA}{σ:St}{H:Hp}{Q:VK}:zfg K t σ H Q=t σ H fun vs H1=>∃(p:Addr) (zs:List Str),vs=[.ref p]/\SqL K H1 p (zs.map V.str)/\zs.length<=1000/\Q (.int (seen (fun i=>zs.getD i ⟨#[]⟩) zs.length).length) H1:=rfl
theorem zh4 {e:Expr} {t:TA} {p1 p2 q1 q2:Pos} (hc:X.calm=true) (hgL:Gl X "len") (hmL:X.mg "len" = none) (hgR:Gl X "set") (hmR:X.mg "set" = none) (ha:PA X [e] t)
    (he:starEach [e] X.env=(false,eval e X.env)::starEach [] X.env:=by rfl) (he2:starEach [.Call (.Name "set" p2) [e] [] q2] X.env=(false,eval (.Call (.Name "set" p2) [e] [] q2) X.env)::starEach [] X.env:=by rfl) :
    PE X (.Call (.Name "len" p1) [.Call (.Name "set" p2) [e] [] q2] [] q1) (zfg X.K t):=by
  intro pins s σ H Q I h;refine wpAny_Call_Name_kw (ou I hgL hmL xi ?_);refine PyProof.Rows.callWith_builtin1 ?_ he2 rfl;rw[he2]
  show wpAny _ _ (spliced ((false,eval (.Call (.Name "set" p2) [e] [] q2) X.env)::backTo q1 (starEach [] X.env))) _ _ s
  refine Calls.spliced_cons ?_;refine wpAny_Call_Name_kw (ou I hgR hmR bt_set ?_);refine PyProof.Rows.callWith_type1 (thn (ha q2 pins s σ H _ I h) fun us s1 ⟨vs,H1,I1,r1,q⟩ => ?_) he rfl;obtain⟨p,zs,rfl,hq,hz,q⟩:=q;obtain⟨u,rfl,rx⟩:=Vals.one r1;cases rx;obtain⟨its,rv,pl,_⟩:=I1.list hq;have hlen:its.length=zs.length:=by have:=rv.length;rw[Za]at this;exact this.symm
  refine zbw (val:=fun i=>zs.getD i ⟨#[]⟩) (I1.ok.hd hc) pl.isList (fun i v hv=>zke rv i v (by simpa using hv)) (by rw[Zr,hlen];exact Yn (YB hz) (by decide)) fun h' tk hd => ?_
  refine Calls.spliced_nil ?_;obtain⟨hS,kp⟩:=hd;rw[show its.toArray.size=zs.length by rw[Zr,hlen]]at hS;have I2:Inv X pins σ H1 { s1 with heap:=h',toks:=tk }:=I1.kept fun b o e=>kp b o (Heap.lt_size e) e
  obtain⟨o,es,ep,t,ho,ex,hd,_,_,hz2,hf,hn⟩:=hS;have h3:((es.size:Nat):Int)<2^63:=by unfold scanBound at hz2;omega
  refine call_len_set ho ex hd hf h3 ⟨.int es.size,H1,I2.tok _,⟨_,rfl⟩,?_⟩;rw[hn];exact q
def rLeS(x y:V)(H:Hp)(Q:VK):Prop:=∃i j,x=.str i/\y=.str j/\Q (.bl (!decide (j.cps.toList<i.cps.toList))) H
theorem e_leS{x y:V}{H:Hp}{Q:VK}:rLeS x y H Q=∃i j,x=.str i/\y=.str j/\Q (.bl (!decide (j.cps.toList<i.cps.toList))) H:=rfl
theorem bv:OpR X (compareOp .LtE) rLeS:=by
  intro pins s σ H x y v u Q I rx ry h;obtain⟨i,j,rfl,rfl,q⟩:=h;obtain⟨t,rfl⟩:=rx;obtain⟨t',rfl⟩:=ry;exact PySem.P.le_str (yo I q rfl)
end
section
variable{σ:St}{k:Nat}{g:TG}{tt:TT}{te:TE}{H1:Hp}{Fin:List V->Hp->Prop}
theorem zdh{z:Str}(Pv:Nat->List V->Hp->Prop)(h0:Pv 0 [] H1)(hz:∀i ys H,i<=z.cps.size->Pv i ys H->ys.length<=sizeLine)
    (hs:∀i c ys H,z.cps[i]? = some c->Pv i ys H->g (.str (chr1 c)) (List.replicate k none++σ) H fun σ2 H2=>σ2.drop k=σ/\tt σ2 H2 fun b H3=>if b=true then te σ2 H3 fun v H4=>Pv (i+1) (ys++[v]) H4 else Pv (i+1) ys H3)
    (hd:∀ys H,Pv z.cps.size ys H->Fin ys H):ra (Itw z) σ k g tt te H1 Fin:=by
  refine⟨fun i m ys H=>m=z.cps.size-i/\i<=z.cps.size/\Pv i ys H,⟨z.cps.size,by simp,ZE _,h0⟩,?_⟩
  rintro i m ys H ⟨rfl,hi,p⟩
  refine⟨hz i ys H hi p,?_⟩
  by_cases hlt:i<z.cps.size
  . refine .inr ⟨hlt,Pv (i+1),fun ys' H' p'=>⟨z.cps.size-(i+1),by omega,rfl,hlt,p'⟩,fun x H' y => ?_⟩
    obtain⟨e,c,e2,y⟩:=y;subst e y;exact hs i c ys _ e2 p
  . have e:i=z.cps.size:=by omega
    subst e;exact .inl ⟨Zm _,hd ys H p⟩
end
def gz:List Int->List V
  | []=>[]
  | i::is=>.int i::gz is
theorem e_vI0:gz []=[]:=rfl
theorem e_vI{i:Int}{is:List Int}:gz (i::is)=.int i::gz is:=rfl
def tInts(ns:List Int):TA:=fun _ H Q=>Q (gz ns) H
theorem e_ints{ns:List Int}{σ:St}{H:Hp}{Q:List V->Hp->Prop}:tInts ns σ H Q=Q (gz ns) H:=rfl
end L2
namespace L2
open PySem PySem.Spec PyProof.Rows
section
variable{X:Cx}
def rIsB(x y:V)(H:Hp)(Q:VK):Prop:=∃b c,x=.bl b/\y=.bl c/\Q (.bl (b==c)) H
theorem e_isB{x y:V}{H:Hp}{Q:VK}:rIsB x y H Q=∃b c,x=.bl b/\y=.bl c/\Q (.bl (b==c)) H:=rfl
end
end L2
namespace L2
open PySem PySem.Spec PyProof.Rows
theorem zfl{α:Type}{l:List α}{k:Nat}{x:α}(h:l[k]? = some x):l.drop k=x::l.drop (k+1):=by
  obtain⟨hk,e⟩:=Zc.mp h;rw[Yx hk,e]
theorem oj{X:Cx}{body:List Stmt}{k:Nat}{st:Stmt}{t ts:TS}(hs:PS X st t)(h:body[k]? = some st)(hr:PSs X (body.drop (k+1)) ts):PSs X (body.drop k) (tSeq t ts):=by
  rw[zfl h];exact ze hs hr
theorem zk2{X:Cx}{body:List Stmt}{k:Nat}{st:Stmt}{t:TS}(hs:PS X st t)(h:body[k]? = some st)(hl:body[k+1]? = none):PSs X (body.drop k) t:=by
  rw[zfl h,List.drop_eq_nil_of_le (List.getElem?_eq_none_iff.mp hl)];exact zd hs
theorem zlf{X:Cx}{body:List Stmt}{t:TS}(h:PSs X (body.drop 0) t):PSs X body t:=h
end L2
namespace L2
open PySem PySem.Spec PyProof.Rows
section
variable{prog:Program}{w:World}{A:Around}{E:Value->Shared->Prop}{s:Shared}
theorem zj6{t b:Addr}{vs ws:List Value}{Q:Value->Shared->Prop}(ht:IsTup s.heap t vs.toArray)(hb:IsTup s.heap b ws.toArray)(hv:vs=[])(h0:Q (.ref b) s) :
    wpAny (model prog w) A (binaryOp .Add (.ref t) (.ref b)) Q E s:=by
  obtain⟨⟨cls,dd,data,sl⟩,ho,hc,n,hd⟩:=id ht;obtain⟨⟨cls2,dd2,data2,sl2⟩,ho2,hc2,n2,hd2⟩:=id hb;simp only at hc hd hc2 hd2;subst hc hd hc2 hd2
  exact concat_meets ⟨_,ho,rfl⟩ ⟨_,ho2,rfl⟩ noFill_tuple_add seq_tuple_add PySem.F.slot_tuple_add PySem.F.entry_tuple_add (PySem.F.args_tuple_add_2 _ _)
    (tuple_addW0 t b vs.toArray ws.toArray n n2 dd dd2 sl sl2 (by simp[hv])) ⟨ho,ho2,h0⟩
end
theorem zkc{H:Hp}{a:Addr}{o:HO}(n:H a=none):Same H (upd H a o):=fun b u e=>by
  rw[z8 (fun z=>by rw[z,n]at e;cases e)];exact e
section
variable{X:Cx}
def rCatH:R2:=fun x y H Q=>∃a b xs ys,x=.ref a/\y=.ref b/\H a=some (.tup xs)/\H b=some (.tup ys)/\xs.length+ys.length<=sizeLine/\∀H' p,Same H H'->H' p=some (.tup (xs++ys))->Q (.ref p) H'
theorem e_catH{x y:V}{H:Hp}{Q:VK}:rCatH x y H Q=∃a b xs ys,x=.ref a/\y=.ref b/\H a=some (.tup xs)/\H b=some (.tup ys)/\xs.length+ys.length<=sizeLine/\∀H' p,Same H H'->H' p=some (.tup (xs++ys))->Q (.ref p) H':=rfl
theorem zen:OpR X (binaryOp .Add) rCatH:=by
  intro pins s σ H x y v u Q I rx ry h;obtain⟨a,b,xs,ys,rfl,rfl,ha,hb,hz,q⟩:=h
  by_cases e1:xs=[]
  . subst e1
    cases rx;cases ry;obtain⟨its,r1,p1,_⟩:=I.tuple (SqT.of ha);obtain⟨its2,r2,p2,_⟩:=I.tuple (SqT.of hb);exact zj6 p1 p2 (r1.nil_iff.mpr rfl) ⟨.ref b,H,I,rfl,q H b (Same.refl _) hb⟩
  . refine zla pins s σ H (.ref a) (.ref b) v u Q I rx ry ⟨a,b,xs,ys,rfl,rfl,.of ha,.of hb,e1,hz,fun e2 => ?_,fun e2 p hp => ?_⟩
    . subst e2
      exact q H a (Same.refl _) (by rw[ha,ZP])
    . exact q _ p (zkc hp) zn
theorem zjh{x:V}{vs:List V}{H:Hp}{Q:VK}:ze1 x vs H Q=∃l b xs zs,x=.ref l/\vs=[.ref b]/\H l=some (.lst xs)/\H b=some (.lst zs)/\xs.length+zs.length<=sizeLine/\Q .non (upd H l (.lst (xs++zs))):=rfl
end
section
open HT
variable{prog:Program}{w:World}{A:Around}{E:Value->Shared->Prop}{s:Shared}
end
section
variable{X:Cx}
def rSlH:V->Option Int->Option Int->Hp->VK->Prop:=fun x lo hi H Q=>∃a xs,x=.ref a/\H a=some (.tup xs)/\∀H' p,Same H H'->H' p=some (.tup (cutV xs lo hi))->Q (.ref p) H'
theorem e_slH{x:V}{lo hi:Option Int}{H:Hp}{Q:VK}:rSlH x lo hi H Q=∃a xs,x=.ref a/\H a=some (.tup xs)/\∀H' p,Same H H'->H' p=some (.tup (cutV xs lo hi))->Q (.ref p) H':=rfl
theorem e_slT{K:Fg}{x:V}{lo hi:Option Int}{H:Hp}{Q:VK}:rSlT K x lo hi H Q=∃a xs,x=.ref a/\SqT K H a xs/\¬(HT.sIx xs.length 0 lo=0/\HT.sIx xs.length xs.length hi=xs.length)/\∀p,H p=none->Q (.ref p) (upd H p (.tup (cutV xs lo hi))):=rfl
theorem zie{xs:List V}{k:Nat}(h:k<=xs.length):cutV xs (some (k:Int)) none=xs.drop k:=by
  unfold cutV;rw[HT.sIx_none,HT.sIx_nat,Nat.min_eq_left h];exact ZG (by rw[ZR];omega)
end
end L2
namespace L2
open PySem PySem.Spec PyProof.Rows
section
variable{σ:St}{k:Nat}{g:TG}{tt:TT}{te:TE}{H1:Hp}{Fin:List V->Hp->Prop}
end
end L2
namespace L2
open PySem PySem.Spec PyProof.Rows
theorem zbu(l:Addr)(items:Array Value)(n:Nat)(dd:Option Addr)(sl:Array (Option Value))(x:Value)(e:Value->Bool)(j:Nat)(hj:j<items.size)
    (hit:e items[j]=true) (hno:∀m (hm:m<items.size),m<j->e items[m]=false) :
    Meets (Builtin.«tuple.index» ⟨[.ref l,x],[]⟩)
      (fun A R s=>s.heap.get? l=some { cls:=.type "tuple", dict:=dd,data:=.seq items n,slots:=sl }/\(∀y,y∈items->SeqAt.EqAt A.in1 s y x (e y))/\R (.ok (.ret (.int j s.toks))) { s with toks:=s.toks+1 }) :=
  .of_wp fun prog w A R s h=>by
    obtain⟨hp,g,d,tk,os⟩:=s;obtain⟨hl,he,h⟩:=h
    wp_walk using AutoSeq1.wpAny_loadPart' hl
    show wpAny (model prog w) A.in1 (forIn [:min items.size items.size] ((none,()):Option PySem.Fin×Unit) fun(i:Nat) _=>(match items[i]? with
      | some y=>do
        let __do_lift <-eqBool y x
        if __do_lift=true then do
            let __do_lift <-retInt (i:Int)
            pure (ForInStep.done (some __do_lift,()))
          else pure (ForInStep.yield (none,()))
      | _=>pure (ForInStep.yield (none,())):Sem (ForInStep (Option PySem.Fin×Unit)))) _ _ _
    rw[Std.Legacy.Range.forIn_eq_forIn_range'];refine wpAny_forIn_list _ (fun rest b s'=>b=(none,())/\s'=(⟨hp,g,d,tk,os⟩:Shared)/\∃i,i<=j/\rest=List.range' i (items.size-i)) _ ?turn ?fin _ _ ⟨rfl,rfl,0,ZE _,by simp[Std.Legacy.Range.size]⟩
    case turn =>
      rintro k rest b s' ⟨rfl,rfl,i,hi,er⟩
      have hlt:i<items.size:=by omega
      rw[show items.size-i=(items.size-(i+1))+1 by omega,List.range'_succ]at er
      injection er with e1 e2
      subst e1;have ei:items[k]? = some items[k]:=by simp[hlt]
      rw[ei];refine wpAny_bind (he _ (Array.getElem_mem hlt) prog w _ _ ?_)
      by_cases hk:k=j
      . subst hk
        rw[hit,if_pos rfl];refine wpAny_bind ?_;unfold retInt
        wp_walk
        exact⟨_,rfl,h⟩
      . rw[hno k hlt (by omega)]
        wp_walk
        exact⟨rfl,rfl,k+1,by omega,e2⟩
    case fin =>
      rintro b s' ⟨rfl,rfl,i,hi,er⟩
      have:(List.range' i (items.size-i)).length=0:=by rw[<-er];rfl
      rw[List.length_range']at this;omega
section
variable{X:Cx}
structure FirstAt(xs:List V)(y:V)(j:Nat):Prop where
  flat:xk y=true
  flats:xs.all xk=true
  hit:∃z,xs[j]? = some z/\eqV z y=true
  no:∀(m:Nat) (z:V),m<j->xs[m]? = some z->eqV z y=false
theorem FirstAt.lt{xs:List V}{y:V}{j:Nat}(h:FirstAt xs y j):j<xs.length:=by
  obtain⟨z,e,_⟩:=h.hit;exact(Zc.mp e).1
theorem cr{xs:List V}{us:List Value}{y z:V}{m:Nat}(r:Vals xs us)(fs:xs.all xk=true)(e:xs[m]? = some z)(hm:m<us.toArray.size):eqU y us.toArray[m]=eqV z y:=by
  obtain⟨w,hw,rw'⟩:=r.get e
  have:us.toArray[m]=w:=by
    have h2:=(Zc.mp hw).2
    simpa using h2
  rw[this];exact c8 rw' (ZS.mp fs _ (Zi e))
def zfm(K:Fg):V->List V->Hp->VK->Prop:=fun x vs H Q=>∃p xs y j,x=.ref p/\vs=[y]/\SqT K H p xs/\FirstAt xs y j/\Q (.int (j:Nat)) H
def ze0(K:Fg):V->List V->Hp->VK->Prop:=fun x vs H Q=>∃p xs y j,x=.ref p/\vs=[y]/\SqL K H p xs/\FirstAt xs y j/\Q (.int (j:Nat)) H
theorem zjj{K:Fg}{x:V}{vs:List V}{H:Hp}{Q:VK}:zfm K x vs H Q=∃p xs y j,x=.ref p/\vs=[y]/\SqT K H p xs/\FirstAt xs y j/\Q (.int (j:Nat)) H:=rfl
theorem zjl{K:Fg}{x:V}{vs:List V}{H:Hp}{Q:VK}:ze0 K x vs H Q=∃p xs y j,x=.ref p/\vs=[y]/\SqL K H p xs/\FirstAt xs y j/\Q (.int (j:Nat)) H:=rfl
theorem zit:MtR X "tuple.index" (zfm X.K):=by
  intro pins s σ H x vs v us Q I rx rvs h;obtain⟨p,xs,y,j,rfl,rfl,hq,hF,q⟩:=h;cases rx;obtain⟨u,rfl,ru⟩:=qt rvs;obtain⟨its,r,pl,hz⟩:=I.tuple hq;obtain⟨⟨cls,dd,data,sl⟩,ho,hc,n,hd⟩:=id pl;simp only at hc hd;subst hc hd;have hl:=r.length;have hjl:j<its.toArray.size:=by rw[Zr,<-hl];exact hF.lt
  obtain⟨z,e,hit⟩:=hF.hit;refine call_meets PySem.F.slot_tuple_index ⟨_,ho,rfl⟩ PySem.F.entry_tuple_index (PySem.F.args_tuple_index_2 _ _) (zbu p its.toArray n dd sl u (eqU y) j hjl ?_ ?_) ⟨ho,fun w hw=>qw ru hF.flat r hF.flats w (by simpa using hw),⟨.int j,H,I.tok _,⟨_,rfl⟩,q⟩⟩
  . rw[cr r hF.flats e];exact hit
  . intro m hm hmj
    have hml:m<xs.length:=by rw[hl];simpa using hm
    rw[cr r hF.flats (Zb hml)];exact hF.no m _ hmj (Zb hml)
theorem zbg:MtR X "list.index" (ze0 X.K):=by
  intro pins s σ H x vs v us Q I rx rvs h;obtain⟨p,xs,y,j,rfl,rfl,hq,hF,q⟩:=h;cases rx;obtain⟨u,rfl,ru⟩:=qt rvs;obtain⟨its,r,pl,hz⟩:=I.list hq;obtain⟨⟨cls,dd,data,sl⟩,ho,hc,n,hd⟩:=id pl.isList;simp only at hc hd;subst hc hd;have hl:=r.length;have hjl:j<its.toArray.size:=by rw[Zr,<-hl];exact hF.lt
  have hn:=mm;obtain⟨z,e,hit⟩:=hF.hit;refine call_meets PySem.F.slot_list_index ⟨_,ho,rfl⟩ PySem.F.entry_list_index (PySem.F.args_list_index_2 _ _) (SeqAt.list_indexAt p its.toArray n dd sl u (eqU y) j hjl (by have:=hF.lt;omega) ?_ ?_) ⟨ho,fun w hw=>qw ru hF.flat r hF.flats w (by simpa using hw),⟨.int j,H,I.tok _,⟨_,rfl⟩,q⟩⟩
  . rw[cr r hF.flats e];exact hit
  . intro m hm hmj
    have hml:m<xs.length:=by rw[hl];simpa using hm
    rw[cr r hF.flats (Zb hml)];exact hF.no m _ hmj (Zb hml)
end
section
variable{X:Cx}
theorem hu10{A:Around}{k:Nat}(hr:Room k A):A.units+1<cLine:=by have:=hu9 hr;omega
def rInK(neg:Bool):R2:=fun y x H Q=>∃a o,x=.ref a/\DGet H a y o/\Q (.bl (neg ^^ o.isSome)) H
theorem e_inK{neg:Bool}{y x:V}{H:Hp}{Q:VK}:rInK neg y x H Q=∃a o,x=.ref a/\DGet H a y o/\Q (.bl (neg ^^ o.isSome)) H:=rfl
theorem zis(hu:X.A.units+1<cLine):OpR X (compareOp .NotIn) (rInK true):=by
  intro pins s σ H x y v u Q I rx ry h;obtain⟨a,o,rfl,g,q⟩:=h;cases ry;exact zkn hu I g rx fun s3 I3=>⟨.bl (!o.isSome),H,I3,rfl,by simpa using q⟩
def rSetD:TSet:=fun o i v H Q=>∃a H',o=.ref a/\DPut H a i v H'/\Q H'
theorem e_setD{o i v:V}{H:Hp}{Q:Hp->Prop}:rSetD o i v H Q=∃a H',o=.ref a/\DPut H a i v H'/\Q H':=rfl
theorem zk6{σ:St}{H:Hp}{Q:VK}:tDNewT σ H Q=∀p,H p=none->Q (.ref p) (upd H p (.dT [])):=rfl
theorem e_dget{td ty:TE}{σ:St}{H:Hp}{Q:VK}:tDGet td ty σ H Q=td σ H fun x H1=>ty σ H1 fun y H2=>∃a v,x=.ref a/\DGet H2 a y (some v)/\Q v H2:=rfl
end
end L2
namespace L2
open PySem PySem.Spec PyProof.Rows
section
variable{X:Cx}
def tBMT(r:V->List V->Hp->VK->Prop)(to:TE)(t:TA):TE:=fun σ H Q=>to σ H fun x H1=>(∃p xs,x=.ref p/\Rd H1 p (.tup xs))/\t σ H1 fun xs H2=>r x xs H2 Q
theorem e_BMT{r:V->List V->Hp->VK->Prop}{to:TE}{t:TA}{σ:St}{H:Hp}{Q:VK}:tBMT r to t σ H Q=to σ H fun x H1=>(∃p xs,x=.ref p/\Rd H1 p (.tup xs))/\t σ H1 fun xs H2=>r x xs H2 Q:=rfl
theorem zhb {o e:Expr} {es:List Expr} {to:TE} {t:TA} {name:Str} {apos cpos:Pos} {id:String} {r:V->List V->Hp->VK->Prop} (pa:PlainAttrs "tuple") (slot:Slot "tuple" name id) (hty:typeOf (.builtin id)=pure (.type "method_descriptor")) (hm:MtR X id r) (ho:PE X o to) (ha:PA X (e::es) t)
    (hbase:attributeBase o name X.env (eval o X.env)=eval o X.env:=by rfl)
    (hfew:((backTo cpos (starEach (e::es) X.env)).all (fun x => !x.1)&&(backToKw cpos (keywordEach [] X.env)).all (fun x=>x.1.isSome)
      && decide ((e::es).length+([]:List Keyword).length+(if ([]:List Keyword).isEmpty then 0 else 1)<30))=true:=by rfl)
    (hline:(apos.endLine==cpos.line)=true:=by rfl) (hs:starEach (e::es) X.env=(false,eval e X.env)::starEach es X.env:=by rfl) (hplain:(backTo cpos (starEach es X.env)).any (·.1)=false:=by rfl) :
    PE X (.Call (.Attribute o name apos) (e::es) [] cpos) (tBMT r to t):=by
  intro pins s σ H Q I h;refine wpAny_Call_method_late hbase hfew hline rfl (thn (ho pins s σ H _ I h) fun v s1 ⟨x,H1,I1,r1,⟨p,ys,ex,hp⟩,q1⟩ => ?_);subst ex;obtain rfl:v=Value.ref p:=r1;obtain⟨z,its,rr,ob,e1,c1,n1,d1,f1⟩:=(show ObjOk X.prog X.w H1 s1.heap p (.tup ys) from hp.ok I1.hok);have h1:s1.TypeIs (.ref p) "tuple" := ⟨ob,e1,c1⟩
  have h2:∀a,Value.ref p=.ref a->∃ob,s1.heap.get? a=some ob/\ob.dict=none:=fun a e=>by
    cases e;exact⟨ob,e1,f1⟩
  refine⟨"tuple", id,pa,slot,hty,h1,h2,?_⟩;have hA:=ha cpos pins s1 σ H1 _ I1 q1;rw[hs]at hA ⊢;refine Calls.callWith_builtin (by show(false||(backTo cpos (starEach es X.env)).any (·.1))=false;rw[hplain] <;> rfl) (Calls.evalArgs_plain ?_);exact thn hA fun us s2 ⟨vs,H2,I2,r2,q2⟩=>hm pins s2 σ H2 (.ref p) vs (.ref p) us Q I2 rfl r2 q2
end
end L2
namespace L2
open PySem PySem.Spec PyProof.Rows
theorem zfa{i:Int}{n:Nat}(h1 : -(2^n)<i)(h2:i<2^n):Builtin.Int.intBits i<=n:=by
  unfold Builtin.Int.intBits
  split
  . exact ZE _
  . rename_i h
    have h0:i≠0:=fun e=>h (by rw[e];rfl)
    have hn:i.natAbs<2^n:=by
      have e:((2^n:Nat):Int)=(2:Int)^n:=by rw[Int.natCast_pow];rfl
      have:(i.natAbs:Int)<((2^n:Nat):Int):=by rw[e];omega
      exact_mod_cast this
    exact(Nat.log2_lt (by omega)).mpr hn
def CMulB(i j:Int):Prop:=(-(10^60)<=i/\i<=10^60) /\ -(10^60)<=j/\j<=10^60
theorem CMulB.ok{i j:Int}(h:CMulB i j):IntMulOk i j:=by
  have e:(10:Int)^60<2^200:=by decide
  obtain⟨⟨a,b⟩,c,d⟩:=h;exact .of_bits (Zd (zfa (n:=200) (by omega) (by omega)) (by decide)) (Zd (zfa (n:=200) (by omega) (by omega)) (by decide))
theorem zff{X:Cx}:OpR X (binaryOp .Mult) (rI CMulB fun i j=>.int (i*j)):=opI fun _ _ _ _ _ _ _ hc q=>mul_int q hc.ok
end L2
namespace L2
open PySem
def SeqH(h:Heap)(l:Addr)(xs:Array Value):Prop:=∃o n,h.get? l=some o/\o.data=.seq xs n
section
variable{prog:Program}{w:World}{A:Around}{E:Value->Shared->Prop}{s:Shared}
theorem fm{it t:Addr}{i:Nat}{items:Array Value}{x:Value}{Q:Value->Shared->Prop}(hit:s.heap.IsTupleIter it t i)
    (ht:SeqH s.heap t items) (hx:items[i]? = some x) (hQ:∀h',h'.IsTupleIter it t (i+1)->Heap.SameBut it s.heap h'->Q x { s with heap:=h' }) :
    wpAny (model prog w) A (Builtin.SmallTypes.nextOf (.ref it)) Q E s:=by
  obtain⟨o,ho,hc,hd⟩:=id hit;obtain⟨ol,nl,hol,hdl⟩:=ht;unfold Builtin.SmallTypes.nextOf
  refine wpAny_bind (wpAny_callSpecial?_slot (name:=Str.ofString "__next__") hit.typeIs F.slot_tuple_iterator_next
    (wpAny_call_entry F.slot_tuple_iterator_next hit.typeIs F.entry_tuple_iterator_next ?_ (F.args_tuple_iterator_next_1 _)))
  show wpAny _ _ (field (.ref it) 0 >>= _) _ _ s
  refine wpAny_bind (wpAny_field ho hd (x:=.ref t) rfl ?_)
  show wpAny _ _ (if (Value.ref t==Value.none)=true then _ else _) _ _ s
  rw[if_neg (show ¬((Value.ref t==Value.none)=true) from Bool.false_ne_true)]
  show wpAny _ _ (field (.ref it) 1 >>= _) _ _ s
  refine wpAny_bind (wpAny_field ho hd (x:=.int i 0) rfl ?_)
  show wpAny _ _ (seqItems? (.ref t) >>= _) _ _ s
  refine wpAny_bind (wpAny_seqItems hol hdl ?_);simp only[Zw,hx];refine wpAny_bind (wpAny_setField ho hd (by simp) (wpAny_pure ⟨x,rfl,wpAny_pure (hQ _ ?_ (Heap.SameBut.update ..))⟩))
  exact⟨_,Heap.get?_update_self _ ho (Obj.isFreed_of_fields (Obj.data_mapFields hd _)),(Obj.cls_mapFields ..).trans hc,by
    rw[Obj.data_mapFields hd];simp[rawInt]⟩
theorem dm{it t:Addr}{i:Nat}{items:Array Value}{Q:Value->Shared->Prop}(hh:A.handled=none)
    (hit:s.heap.IsTupleIter it t i) (ht:SeqH s.heap t items) (hx:items[i]? = none)
    (hE:∀h' e,Heap.ExtBut it s.heap h'->(∃o,h'.get? e=some o/\o.cls=.type "StopIteration")->E (.ref e) { s with heap:=h' }) :
    wpAny (model prog w) A (Builtin.SmallTypes.nextOf (.ref it)) Q E s:=by
  obtain⟨o,ho,hc,hd⟩:=id hit;obtain⟨ol,nl,hol,hdl⟩:=ht;unfold Builtin.SmallTypes.nextOf
  refine wpAny_bind (wpAny_callSpecial?_slot (name:=Str.ofString "__next__") hit.typeIs F.slot_tuple_iterator_next
    (wpAny_call_entry F.slot_tuple_iterator_next hit.typeIs F.entry_tuple_iterator_next ?_ (F.args_tuple_iterator_next_1 _)))
  show wpAny _ _ (field (.ref it) 0 >>= _) _ _ s
  refine wpAny_bind (wpAny_field ho hd (x:=.ref t) rfl ?_)
  show wpAny _ _ (if (Value.ref t==Value.none)=true then _ else _) _ _ s
  rw[if_neg (show ¬((Value.ref t==Value.none)=true) from Bool.false_ne_true)]
  show wpAny _ _ (field (.ref it) 1 >>= _) _ _ s
  refine wpAny_bind (wpAny_field ho hd (x:=.int i 0) rfl ?_)
  show wpAny _ _ (seqItems? (.ref t) >>= _) _ _ s
  refine wpAny_bind (wpAny_seqItems hol hdl ?_);simp only[Zw,hx];refine wpAny_bind (wpAny_rule (wpAny_bind (wpAny_setField ho hd (by simp) ?_)))
  show wpAny _ _ (newExc (.type "StopIteration") [] >>= _) _ _ _
  refine wpAny_bind ?_;simp only[newExc,newTuple];refine wpAny_bind (wpAny_newObj_type ?_ (by size_fits));refine wpAny_bind (m:=firstArgMember _ _) (wpAny_of_eq (a:=Value.none) (by first | rfl | (simp only[firstArgMember];rfl)) ?_);refine wpAny_newObj_type ?_ (by size_fits);simp only[raiseNew];refine wpAny_bind (wpAny_handled ?_)
  first | rw[show A.in1.handled=none from hh] | rw[hh]
  refine wpAny_bind (wpAny_pure (wpAny_throw ?_));exact hE _ _ (((Heap.SameBut.update ..).extBut.push _).push _) ⟨_,Heap.get?_push_size _ rfl,rfl⟩
theorem fk{it t:Addr}{i:Nat}{items:Array Value}{x:Value}{Q:Value->Shared->Prop}(hit:s.heap.IsListIter it t i)
    (ht:SeqH s.heap t items) (hx:items[i]? = some x) (hQ:∀h',h'.IsListIter it t (i+1)->Heap.SameBut it s.heap h'->Q x { s with heap:=h' }) :
    wpAny (model prog w) A (Builtin.SmallTypes.nextOf (.ref it)) Q E s:=by
  obtain⟨o,ho,hc,hd⟩:=id hit;obtain⟨ol,nl,hol,hdl⟩:=ht;unfold Builtin.SmallTypes.nextOf
  refine wpAny_bind (wpAny_callSpecial?_slot (name:=Str.ofString "__next__") hit.typeIs slot_listiter_next
    (wpAny_call_entry slot_listiter_next hit.typeIs entry_listiter_next ?_ (args_listiter_next _)))
  show wpAny _ _ (field (.ref it) 0 >>= _) _ _ s
  refine wpAny_bind (wpAny_field ho hd (x:=.ref t) rfl ?_)
  show wpAny _ _ (if (Value.ref t==Value.none)=true then _ else _) _ _ s
  rw[if_neg (show ¬((Value.ref t==Value.none)=true) from Bool.false_ne_true)]
  show wpAny _ _ (field (.ref it) 1 >>= _) _ _ s
  refine wpAny_bind (wpAny_field ho hd (x:=.int i 0) rfl ?_)
  show wpAny _ _ (seqItems? (.ref t) >>= _) _ _ s
  refine wpAny_bind (wpAny_seqItems hol hdl ?_);simp only[Zw,hx];refine wpAny_bind (wpAny_setField ho hd (by simp) (wpAny_pure ⟨x,rfl,wpAny_pure (hQ _ ?_ (Heap.SameBut.update ..))⟩))
  exact⟨_,Heap.get?_update_self _ ho (Obj.isFreed_of_fields (Obj.data_mapFields hd _)),(Obj.cls_mapFields ..).trans hc,by
    rw[Obj.data_mapFields hd];simp[rawInt]⟩
theorem da{it t:Addr}{i:Nat}{items:Array Value}{Q:Value->Shared->Prop}(hh:A.handled=none)
    (hit:s.heap.IsListIter it t i) (ht:SeqH s.heap t items) (hx:items[i]? = none)
    (hE:∀h' e,Heap.ExtBut it s.heap h'->(∃o,h'.get? e=some o/\o.cls=.type "StopIteration")->E (.ref e) { s with heap:=h' }) :
    wpAny (model prog w) A (Builtin.SmallTypes.nextOf (.ref it)) Q E s:=by
  obtain⟨o,ho,hc,hd⟩:=id hit;obtain⟨ol,nl,hol,hdl⟩:=ht;unfold Builtin.SmallTypes.nextOf
  refine wpAny_bind (wpAny_callSpecial?_slot (name:=Str.ofString "__next__") hit.typeIs slot_listiter_next
    (wpAny_call_entry slot_listiter_next hit.typeIs entry_listiter_next ?_ (args_listiter_next _)))
  show wpAny _ _ (field (.ref it) 0 >>= _) _ _ s
  refine wpAny_bind (wpAny_field ho hd (x:=.ref t) rfl ?_)
  show wpAny _ _ (if (Value.ref t==Value.none)=true then _ else _) _ _ s
  rw[if_neg (show ¬((Value.ref t==Value.none)=true) from Bool.false_ne_true)]
  show wpAny _ _ (field (.ref it) 1 >>= _) _ _ s
  refine wpAny_bind (wpAny_field ho hd (x:=.int i 0) rfl ?_)
  show wpAny _ _ (seqItems? (.ref t) >>= _) _ _ s
  refine wpAny_bind (wpAny_seqItems hol hdl ?_);simp only[Zw,hx];refine wpAny_bind (wpAny_rule (wpAny_bind (wpAny_setField ho hd (by simp) ?_)))
  show wpAny _ _ (newExc (.type "StopIteration") [] >>= _) _ _ _
  refine wpAny_bind ?_;simp only[newExc,newTuple];refine wpAny_bind (wpAny_newObj_type ?_ (by size_fits));refine wpAny_bind (m:=firstArgMember _ _) (wpAny_of_eq (a:=Value.none) (by first | rfl | (simp only[firstArgMember];rfl)) ?_);refine wpAny_newObj_type ?_ (by size_fits);simp only[raiseNew];refine wpAny_bind (wpAny_handled ?_)
  first | rw[show A.in1.handled=none from hh] | rw[hh]
  refine wpAny_bind (wpAny_pure (wpAny_throw ?_));exact hE _ _ (((Heap.SameBut.update ..).extBut.push _).push _) ⟨_,Heap.get?_push_size _ rfl,rfl⟩
end
structure Drw where
  it:Addr
  l:Addr
  xs:Array Value
def DrAt(h:Heap)(d:Drw)(k:Nat):Prop:=(h.IsListIter d.it d.l k\/h.IsTupleIter d.it d.l k)/\SeqH h d.l d.xs
theorem DrAt.ext{h h':Heap}{d:Drw}{k:Nat}(q:DrAt h d k)(h1:∀o,h.get? d.it=some o->h'.get? d.it=some o)(h2:∀o,h.get? d.l=some o->h'.get? d.l=some o):DrAt h' d k:=by
  obtain⟨a,o',n,e',r'⟩:=q;refine⟨?_,o',n,h2 o' e',r'⟩
  rcases a with ⟨o,e,r⟩ | ⟨o,e,r⟩
  . exact .inl ⟨o,h1 o e,r⟩
  . exact .inr ⟨o,h1 o e,r⟩
theorem DrAt.itAt{h:Heap}{d:Drw}{k:Nat}(q:DrAt h d k):∃o,h.get? d.it=some o/\o.data=.fields #[.ref d.l,.int k 0]:=by
  rcases q.1 with ⟨o,e,c,r⟩ | ⟨o,e,c,r⟩ <;> exact⟨o,e,r⟩
theorem DrAt.ne{h:Heap}{d:Drw}{k:Nat}(q:DrAt h d k):d.l≠d.it:=fun e=>by
  obtain⟨o,e1,r1⟩:=q.itAt;obtain⟨o',n,e2,r2⟩:=q.2;rw[e,e1]at e2;cases e2;rw[r1]at r2;cases r2
section
variable{prog:Program}{w:World}{A:Around}{E:Value->Shared->Prop}{s:Shared}
theorem za1{d:Drw}{k:Nat}{x:Value}{Q:Value->Shared->Prop}(q:DrAt s.heap d k)(hx:d.xs[k]? = some x)(hQ:∀h',DrAt h' d (k+1)->Heap.SameBut d.it s.heap h'->Q x { s with heap:=h' }) :
    wpAny (model prog w) A (Builtin.SmallTypes.nextOf (.ref d.it)) Q E s:=by
  have hne:=q.ne;obtain⟨a,b⟩:=q
  have keep:∀h',Heap.SameBut d.it s.heap h'->SeqH h' d.l d.xs:=fun h' hs=>by
    obtain⟨o',n,e',r'⟩:=b;exact⟨o',n,hs.extBut _ _ hne e',r'⟩
  rcases a with a | a
  . exact fk a b hx fun h' a' hs=>hQ h' ⟨.inl a',keep h' hs⟩ hs
  . exact fm a b hx fun h' a' hs=>hQ h' ⟨.inr a',keep h' hs⟩ hs
theorem zj3{d:Drw}{k:Nat}{Q:Value->Shared->Prop}(hh:A.handled=none)(q:DrAt s.heap d k)(hx:d.xs[k]? = none)
    (hE:∀h' e,Heap.ExtBut d.it s.heap h'->(∃o,h'.get? e=some o/\o.cls=.type "StopIteration")->E (.ref e) { s with heap:=h' }) :
    wpAny (model prog w) A (Builtin.SmallTypes.nextOf (.ref d.it)) Q E s:=by
  obtain⟨a,b⟩:=q
  rcases a with a | a
  . exact da hh a b hx hE
  . exact dm hh a b hx hE
abbrev y6(h:Heap)(T:Addr)(xs:List Value):Prop:=h.get? T=some { cls:=.type "tuple", data:=.seq xs.toArray }
structure ip(z TI TO:Addr)(ds:List Drw):Prop where
  TIz:TI≠z
  TOz:TO≠z
  TITO:TI≠TO
  iz:∀d∈ds,d.it≠z/\d.it≠TI/\d.it≠TO
  lz:∀d∈ds,d.l≠z/\d.l≠TO
  ii:∀(i j:Nat) (d e:Drw),ds[i]? = some d->ds[j]? = some e->i≠j->d.it≠e.it
  li:∀(d e:Drw),d∈ds->e∈ds->d.l≠e.it
structure ZSt(h0 h:Heap)(z TI TO:Addr)(ds:List Drw)(vs old:List Value)(k j:Nat):Prop where
  zip:IsZip h z TI TO .ellipsis
  to:y6 h TO (vs.take j++old.drop j)
  done:∀(i:Nat) (d:Drw),ds[i]? = some d->i<j->DrAt h d (k+1)
  todo:∀(i:Nat) (d:Drw),ds[i]? = some d->j<=i->DrAt h d k
  keep:∀c o,c≠z->c≠TO->(∀d∈ds,c≠d.it)->h0.get? c=some o->h.get? c=some o
  size:h.objs.size=h0.objs.size
theorem zcf{T:Addr}{xs:List Value}{x:Value}{k:Nat}{Q:Unit->Shared->Prop}(hT:y6 s.heap T xs)(h8:xs.length<=8)
    (h:∀h',y6 h' T (xs.set k x)->Heap.SameBut T s.heap h'->Q () { s with heap:=h' }):wpAny (model prog w) A (updateSeq T (·.setIfInBounds k x)) Q E s:=by
  have z1:xs.toArray.size<=sizeLine:=by rw[Zr];exact Zd h8 (by decide)
  have z2:(xs.toArray.setIfInBounds k x).size<=sizeLine+1:=by rw[Array.size_setIfInBounds];omega
  refine wpAny_updateSeq (hz:=z1) (_hz':=z2) hT rfl (h _ ?_ (Heap.SameBut.update ..))
  show(s.heap.update T _).get? T=_
  rw[Heap.get?_update_self _ hT rfl];simp[Obj.mapSeq]
theorem fw{α:Type}{l:List α}{j i:Nat}{v:α}{rest:List (α×Nat)}(er:(v,i)::rest=l.zipIdx.drop j):l[j]? = some v/\i=j/\rest=l.zipIdx.drop (j+1):=by
  have h0:l.zipIdx[j]? = some (v,i):=by
    have:(l.zipIdx.drop j)[0]? = some (v,i):=by rw[<-er];rfl
    rwa [ZQ,Nat.add_zero]at this
  rw[List.getElem?_zipIdx]at h0;have ht:rest=(l.zipIdx.drop j).tail:=by rw[<-er];rfl
  cases e:l[j]? with
  | none=>rw[e]at h0;cases h0
  | some u =>
    rw[e]at h0;simp at h0;exact⟨by rw[h0.1],h0.2.symm,by rw[ht,List.tail_drop]⟩
theorem zjm{z TI TO:Addr}{ds:List Drw}{vs old:List Value}{k:Nat}{Q:Value->Shared->Prop}(D:ip z TI TO ds)(hn:ds≠[])(hz:IsZip s.heap z TI TO .none)(hTI:y6 s.heap TI (ds.map fun d=>.ref d.it))(hTO:y6 s.heap TO old)
    (lv:vs.length=ds.length) (lo:old.length=ds.length) (h8:ds.length<=8) (hd:∀d∈ds,DrAt s.heap d k) (hv:∀(i:Nat) (d:Drw),ds[i]? = some d->d.xs[k]? = vs[i]?)
    (hQ:∀h',IsZip h' z TI TO (rawInt s.heap.objs.size)->y6 h' TO vs->(∀d∈ds,DrAt h' d (k+1))->y6 h' s.heap.objs.size vs->h'.objs.size=s.heap.objs.size+1 ->
      (∀c o,c≠z->c≠TO->(∀d∈ds,c≠d.it)->s.heap.get? c=some o->h'.get? c=some o)->Q (.ref s.heap.objs.size) { s with heap:=h' }) :
    wpAny (model prog w) A (Builtin.«zip.__next__» ⟨[.ref z],[]⟩) (fun fin s'=>∃v,fin=.done (.ret v)/\Q v s') E s:=by
  show wpAny _ _ (field (.ref z) 2 >>= _) _ _ _
  refine wpAny_bind (wpAny_field hz rfl (x:=.bool false) rfl ?_)
  show wpAny _ _ (field (.ref z) 3 >>= _) _ _ _
  refine wpAny_bind (wpAny_field hz rfl (x:=.ref TI) rfl ?_);refine wpAny_bind (wpAny_seqItems hTI rfl ?_)
  have hne:¬(((ds.map fun d=>Value.ref d.it).toArray).isEmpty=true):=by
    simp;exact hn
  show wpAny _ _ (if ((ds.map fun d=>Value.ref d.it).toArray.isEmpty=true) then _ else _) _ _ _
  rw[if_neg hne]
  show wpAny _ _ (Builtin.SmallTypes.ownedTupleIsFree (.ref z) >>= _) _ _ _
  refine wpAny_bind ?_;unfold Builtin.SmallTypes.ownedTupleIsFree;refine wpAny_bind (wpAny_field hz rfl (x:=.none) rfl (wpAny_pure ?_));simp only[if_true];refine wpAny_bind (wpAny_rule ?_);refine wpAny_bind (wpAny_field hz rfl (x:=.ref TO) rfl ?_);refine wpAny_bind (wpAny_setField_rec hz (by simp) fun h₁ hz₁ hs₁ => ?_)
  replace hz₁:IsZip h₁ z TI TO .ellipsis:=hz₁
  refine wpAny_bind ?_
  have st0:ZSt s.heap h₁ z TI TO ds vs old k 0:=⟨hz₁,by
    rw[YI,ZN,Yh]
    exact hs₁.extBut _ _ D.TOz hTO,fun i d _ h=>absurd h (YE _),fun i d e _=>(hd d (Zi e)).ext (fun o q=>hs₁.extBut _ _ (D.iz d (Zi e)).1 q) (fun o q=>hs₁.extBut _ _ (D.lz d (Zi e)).1 q),fun c o c1 _ _ q=>hs₁.extBut _ _ c1 q,hs₁.1⟩
  refine wpAny_forIn_list _ (fun rest b s'=>b=(none,())/\∃j h,s'={ s with heap:=h }/\j<=ds.length/\rest=((ds.map fun d=>Value.ref d.it).zipIdx).drop j/\ZSt s.heap h z TI TO ds vs old k j) _ ?turn ?fin _ _ ⟨rfl,0,h₁,rfl,ZE _,rfl,st0⟩
  case turn =>
    rintro⟨v,i⟩ rest b s' ⟨rfl,j,h,rfl,hj,er,st⟩
    obtain⟨ev,rfl,er2⟩:=fw er;rw[Ze]at ev
    cases ed:ds[i]? with
    | none=>rw[ed]at ev;cases ev
    | some d =>
    rw[ed]at ev;cases ev;have hil:=(Zc.mp ed).1;have hm:=Zi ed;have ex:=hv i d ed;obtain⟨x,evx⟩:∃x,vs[i]? = some x:=⟨vs[i]'(by omega),Zb _⟩;rw[evx]at ex;refine wpAny_bind (wpAny_onRaise ?_)
    show wpAny _ _ (Builtin.SmallTypes.nextOf (.ref d.it) >>= _) _ _ _
    refine wpAny_bind (za1 (s:={ s with heap:=h }) (st.todo i d ed (Zm _)) ex fun h₂ hd₂ hs₂=>wpAny_pure ?_)
    replace hs₂:Heap.SameBut d.it h h₂:=hs₂
    have hTO₂:y6 h₂ TO (vs.take i++old.drop i):=hs₂.extBut _ _ (Ne.symm (D.iz d hm).2.2) st.to;refine wpAny_bind (wpAny_seqItems (s:={ s with heap:=h₂ }) hTO₂ rfl ?_);refine wpAny_bind (zcf (s:={ s with heap:=h₂ }) hTO₂ (by rw[Zo,Zj,ZR];omega) fun h₃ hTO₃ hs₃ => ?_)
    replace hs₃:Heap.SameBut TO h₂ h₃:=hs₃
    refine wpAny_bind (wpAny_letGo (wpAny_pure ?_));have up:∀c o,c≠d.it->c≠TO->h.get? c=some o->h₃.get? c=some o:=fun c o c1 c2 e=>hs₃.extBut _ _ c2 (hs₂.extBut _ _ c1 e)
    refine⟨rfl,i+1,h₃,rfl,hil,er2,⟨up _ _ (Ne.symm (D.iz d hm).1) (Ne.symm D.TOz) st.zip,?_,fun m e em hmi => ?_,fun m e em hmi => ?_,fun c o c1 c2 c3 e=>up c o (c3 d hm) c2 (st.keep c o c1 c2 c3 e),?_⟩⟩
    . have:(vs.take i++old.drop i).set i x=vs.take (i+1)++old.drop (i+1):=by
        have lt:(vs.take i).length=i:=by rw[Zj];omega
        have eo:old.drop i=old[i]'(by omega)::old.drop (i+1):=Yx (by omega);rw[eo,List.set_append_right _ _ (by omega),lt,YF,YR,Zq,evx];simp
      rw[this]at hTO₃;exact hTO₃
    . have hme:=Zi em
      by_cases hmi':m=i
      . subst hmi'
        rw[ed]at em;cases em;exact hd₂.ext (fun o q=>hs₃.extBut _ _ (D.iz d hm).2.2 q) (fun o q=>hs₃.extBut _ _ (D.lz d hm).2 q)
      . exact(st.done m e em (by omega)).ext (fun o q=>up _ _ (D.ii m i e d em ed hmi') (D.iz e hme).2.2 q) (fun o q=>up _ _ (D.li e d hme hm) (D.lz e hme).2 q)
    . have hme:=Zi em
      exact(st.todo m e em (by omega)).ext (fun o q=>up _ _ (D.ii m i e d em ed (by omega)) (D.iz e hme).2.2 q) (fun o q=>up _ _ (D.li e d hme hm) (D.lz e hme).2 q)
    . rw[hs₃.1,hs₂.1,st.size]
  case fin =>
    rintro b s' ⟨rfl,j,h,rfl,hj,er,st⟩
    have hjl:j=ds.length:=by
      have:=congrArg List.length er;rw[ZR,List.length_zipIdx,Za,Yw]at this;omega
    subst hjl
    have hTO₅:y6 h TO vs:=by
      have:=st.to
      rwa [<-lv,Zt,List.drop_of_length_le (by omega),ZP]at this
    refine wpAny_bind (wpAny_seqItems (s:={ s with heap:=h }) hTO₅ rfl ?_);have hzl:vs.length<=sizeLine:=Zd (show vs.length<=8 by omega) (by decide);refine wpAny_bind (wpAny_newTuple (s:={ s with heap:=h }) ?_ (by simpa using hzl));have hsz:=st.size;have hzlt:z<h.objs.size:=Heap.lt_size st.zip
    show wpAny _ _ (Builtin.SmallTypes.ownedTupleHandOut (.ref z) (.ref h.objs.size) >>= _) _ _ _
    refine wpAny_bind ?_;unfold Builtin.SmallTypes.ownedTupleHandOut;have hz₆:IsZip (h.push { cls:=.type "tuple", data:=.seq vs.toArray }) z TI TO .ellipsis:=Heap.get?_push_of_some _ st.zip;refine wpAny_bind (wpAny_setField_rec (s:={ s with heap:=h.push { cls:=.type "tuple", data:=.seq vs.toArray } }) hz₆ (by simp) fun h₇ hz₇ hs₇ => ?_)
    replace hz₇:IsZip h₇ z TI TO (rawInt h.objs.size):=hz₇
    replace hs₇:Heap.SameBut z (h.push { cls:=.type "tuple", data:=.seq vs.toArray }) h₇:=hs₇
    refine wpAny_setField_rec (s:={ s with heap:=h₇ }) hz₇ (by simp) fun h₈ hz₈ hs₈ => ?_
    replace hz₈:IsZip h₈ z TI TO (rawInt h.objs.size):=hz₈
    replace hs₈:Heap.SameBut z h₇ h₈:=hs₈
    have up:∀c o,c≠z->h.get? c=some o->h₈.get? c=some o:=fun c o c1 e=>hs₈.extBut _ _ c1 (hs₇.extBut _ _ c1 (Heap.get?_push_of_some _ e))
    have hT₈:y6 h₈ h.objs.size vs:=hs₈.extBut _ _ (Yb hzlt) (hs₇.extBut _ _ (Yb hzlt) (Heap.get?_push_size _ rfl));have hz8:h₈.objs.size=h.objs.size+1:=by rw[hs₈.1,hs₇.1,Heap.size_push]
    rw[hsz]at hz₈ hT₈ hz8;refine wpAny_pure ⟨_,rfl,?_⟩
    show Q (.ref h.objs.size) _
    rw[hsz];refine hQ h₈ hz₈ (up _ _ D.TOz hTO₅) (fun d hm => ?_) hT₈ hz8 fun c o c1 c2 c3 e=>up c o c1 (st.keep c o c1 c2 c3 e)
    obtain⟨m,hml,em⟩:=Zy hm;have em':ds[m]? = some d:=by rw[<-em];exact Zb hml
    exact(st.done m d em' hml).ext (fun o q=>up _ _ (D.iz d hm).1 q) (fun o q=>up _ _ (D.lz d hm).1 q)
structure ZSe(h0 h:Heap)(z TI TO:Addr)(ds:List Drw)(k j:Nat):Prop where
  zip:IsZip h z TI TO .ellipsis
  to:∃ts,y6 h TO ts/\ts.length=ds.length
  more:∀(i:Nat) (d:Drw),ds[i]? = some d->i<j->d.xs[k]? ≠ none
  todo:∀(i:Nat) (d:Drw),ds[i]? = some d->j<=i->DrAt h d k
  keep:∀c o,c≠z->c≠TO->(∀d∈ds,c≠d.it)->h0.get? c=some o->h.get? c=some o
theorem zl4{z TI TO:Addr}{ds:List Drw}{old:List Value}{k:Nat}{Q:Fin->Shared->Prop}(hh:A.handled=none)(D:ip z TI TO ds)(hn:ds≠[])(hz:IsZip s.heap z TI TO .none)(hTI:y6 s.heap TI (ds.map fun d=>.ref d.it))(hTO:y6 s.heap TO old)
    (lo:old.length=ds.length) (h8:ds.length<=8) (hd:∀d∈ds,DrAt s.heap d k) (hend:∃d∈ds,d.xs[k]? = none)
    (hE:∀h' e,(∀c o,c≠z->c≠TO->(∀d∈ds,c≠d.it)->s.heap.get? c=some o->h'.get? c=some o)->(∃o,h'.get? e=some o/\o.cls=.type "StopIteration")->E (.ref e) { s with heap:=h' }) :
    wpAny (model prog w) A (Builtin.«zip.__next__» ⟨[.ref z],[]⟩) Q E s:=by
  show wpAny _ _ (field (.ref z) 2 >>= _) _ _ _
  refine wpAny_bind (wpAny_field hz rfl (x:=.bool false) rfl ?_)
  show wpAny _ _ (field (.ref z) 3 >>= _) _ _ _
  refine wpAny_bind (wpAny_field hz rfl (x:=.ref TI) rfl ?_);refine wpAny_bind (wpAny_seqItems hTI rfl ?_)
  have hne:¬(((ds.map fun d=>Value.ref d.it).toArray).isEmpty=true):=by
    simp;exact hn
  show wpAny _ _ (if ((ds.map fun d=>Value.ref d.it).toArray.isEmpty=true) then _ else _) _ _ _
  rw[if_neg hne]
  show wpAny _ _ (Builtin.SmallTypes.ownedTupleIsFree (.ref z) >>= _) _ _ _
  refine wpAny_bind ?_;unfold Builtin.SmallTypes.ownedTupleIsFree;refine wpAny_bind (wpAny_field hz rfl (x:=.none) rfl (wpAny_pure ?_));simp only[if_true];refine wpAny_bind (wpAny_rule ?_);refine wpAny_bind (wpAny_field hz rfl (x:=.ref TO) rfl ?_);refine wpAny_bind (wpAny_setField_rec hz (by simp) fun h₁ hz₁ hs₁ => ?_)
  replace hz₁:IsZip h₁ z TI TO .ellipsis:=hz₁
  refine wpAny_bind ?_;have st0:ZSe s.heap h₁ z TI TO ds k 0:=⟨hz₁,⟨old,hs₁.extBut _ _ D.TOz hTO,lo⟩,fun i d _ h=>absurd h (YE _),fun i d e _=>(hd d (Zi e)).ext (fun o q=>hs₁.extBut _ _ (D.iz d (Zi e)).1 q) (fun o q=>hs₁.extBut _ _ (D.lz d (Zi e)).1 q),fun c o c1 _ _ q=>hs₁.extBut _ _ c1 q⟩;refine wpAny_forIn_list _ (fun rest b s'=>b=(none,())/\∃j h,s'={ s with heap:=h }/\j<=ds.length/\rest=((ds.map fun d=>Value.ref d.it).zipIdx).drop j/\ZSe s.heap h z TI TO ds k j) _ ?turn ?fin _ _ ⟨rfl,0,h₁,rfl,ZE _,rfl,st0⟩
  case turn =>
    rintro⟨v,i⟩ rest b s' ⟨rfl,j,h,rfl,hj,er,st⟩
    obtain⟨ev,rfl,er2⟩:=fw er;rw[Ze]at ev
    cases ed:ds[i]? with
    | none=>rw[ed]at ev;cases ev
    | some d =>
    rw[ed]at ev;cases ev;have hil:=(Zc.mp ed).1;have hm:=Zi ed;refine wpAny_bind (wpAny_onRaise ?_)
    show wpAny _ _ (Builtin.SmallTypes.nextOf (.ref d.it) >>= _) _ _ _
    cases ex:d.xs[k]? with
    | none =>
      refine wpAny_bind (zj3 (s:={ s with heap:=h }) hh (st.todo i d ed (Zm _)) ex fun h₂ e hs₂ he => ?_);obtain⟨oe,hoe,hce⟩:=he;have hz₂:IsZip h₂ z TI TO .ellipsis:=hs₂ _ _ (Ne.symm (D.iz d hm).1) st.zip;have hez:e≠z:=fun x=>by subst x;rw[hz₂]at hoe;cases hoe;simp at hce
      exact wpAny_setField_rec (s:={ s with heap:=h₂ }) hz₂ (by simp) fun h₃ _ hs₃=>hE h₃ e (fun c o c1 c2 c3 x=>hs₃.extBut _ _ c1 (hs₂ _ _ (c3 d hm) (st.keep c o c1 c2 c3 x))) ⟨oe,hs₃.extBut _ _ hez hoe,hce⟩
    | some x =>
      refine wpAny_bind (za1 (s:={ s with heap:=h }) (st.todo i d ed (Zm _)) ex fun h₂ hd₂ hs₂=>wpAny_pure ?_)
      replace hs₂:Heap.SameBut d.it h h₂:=hs₂
      obtain⟨ts,hts,lts⟩:=st.to;have hTO₂:y6 h₂ TO ts:=hs₂.extBut _ _ (Ne.symm (D.iz d hm).2.2) hts;refine wpAny_bind (wpAny_seqItems (s:={ s with heap:=h₂ }) hTO₂ rfl ?_);refine wpAny_bind (zcf (s:={ s with heap:=h₂ }) hTO₂ (by omega) fun h₃ hTO₃ hs₃ => ?_)
      replace hs₃:Heap.SameBut TO h₂ h₃:=hs₃
      refine wpAny_bind (wpAny_letGo (wpAny_pure ?_));have up:∀c o,c≠d.it->c≠TO->h.get? c=some o->h₃.get? c=some o:=fun c o c1 c2 e=>hs₃.extBut _ _ c2 (hs₂.extBut _ _ c1 e)
      refine⟨rfl,i+1,h₃,rfl,hil,er2,⟨up _ _ (Ne.symm (D.iz d hm).1) (Ne.symm D.TOz) st.zip,⟨_,hTO₃,by rw[List.length_set];exact lts⟩,fun m e em hmi => ?_,fun m e em hmi => ?_,fun c o c1 c2 c3 e=>up c o (c3 d hm) c2 (st.keep c o c1 c2 c3 e)⟩⟩
      . by_cases hmi':m=i
        . subst hmi'
          rw[ed]at em;cases em;rw[ex];simp
        . exact st.more m e em (by omega)
      . have hme:=Zi em
        exact(st.todo m e em (by omega)).ext (fun o q=>up _ _ (D.ii m i e d em ed (by omega)) (D.iz e hme).2.2 q) (fun o q=>up _ _ (D.li e d hme hm) (D.lz e hme).2 q)
  case fin =>
    rintro b s' ⟨rfl,j,h,rfl,hj,er,st⟩
    exfalso
    have hjl:j=ds.length:=by
      have:=congrArg List.length er;rw[ZR,List.length_zipIdx,Za,Yw]at this;omega
    subst hjl;obtain⟨d,hm,e⟩:=hend;obtain⟨m,hml,em⟩:=Zy hm;exact st.more m d (by rw[<-em];exact Zb hml) hml e
theorem d5{z TI TO:Addr}{ds:List Drw}{vs old:List Value}{k:Nat}{Q:Option Value->Shared->Prop}(D:ip z TI TO ds)(hn:ds≠[])(hz:IsZip s.heap z TI TO .none)(hTI:y6 s.heap TI (ds.map fun d=>.ref d.it))(hTO:y6 s.heap TO old)
    (lv:vs.length=ds.length) (lo:old.length=ds.length) (h8:ds.length<=8) (hd:∀d∈ds,DrAt s.heap d k) (hv:∀(i:Nat) (d:Drw),ds[i]? = some d->d.xs[k]? = vs[i]?)
    (hQ:∀h',IsZip h' z TI TO (rawInt s.heap.objs.size)->y6 h' TO vs->(∀d∈ds,DrAt h' d (k+1))->y6 h' s.heap.objs.size vs->h'.objs.size=s.heap.objs.size+1 ->
      (∀c o,c≠z->c≠TO->(∀d∈ds,c≠d.it)->s.heap.get? c=some o->h'.get? c=some o)->Q (some (.ref s.heap.objs.size)) { s with heap:=h' }) :
    wpAny (model prog w) A (pyNext (.ref z)) Q E s:=by
  have hT:s.TypeIs (.ref z) "zip" := ⟨_,hz,rfl⟩;unfold pyNext
  exact wpAny_bind (wpAny_attempt (wpAny_callSpecial?_slot (name:=Str.ofString "__next__") hT F.slot_zip_next
    (wpAny_call_entry F.slot_zip_next hT F.entry_zip_next
      (zjm D hn hz hTI hTO lv lo h8 hd hv fun h' a1 a2 a3 a4 a5 a6=>wpAny_pure (hQ h' a1 a2 a3 a4 a5 a6)) (F.args_zip_next_1 _))))
theorem cf{z TI TO:Addr}{ds:List Drw}{old:List Value}{k:Nat}{Q:Option Value->Shared->Prop}(hh:A.handled=none)(D:ip z TI TO ds)(hn:ds≠[])(hz:IsZip s.heap z TI TO .none)(hTI:y6 s.heap TI (ds.map fun d=>.ref d.it))(hTO:y6 s.heap TO old)
    (lo:old.length=ds.length) (h8:ds.length<=8) (hd:∀d∈ds,DrAt s.heap d k) (hend:∃d∈ds,d.xs[k]? = none)
    (hQ:∀h',(∀c o,c≠z->c≠TO->(∀d∈ds,c≠d.it)->s.heap.get? c=some o->h'.get? c=some o)->Q none { s with heap:=h' }):wpAny (model prog w) A (pyNext (.ref z)) Q E s:=by
  have hT:s.TypeIs (.ref z) "zip" := ⟨_,hz,rfl⟩;unfold pyNext
  refine wpAny_bind (wpAny_attempt (wpAny_callSpecial?_slot (name:=Str.ofString "__next__") hT F.slot_zip_next
    (wpAny_call_entry F.slot_zip_next hT F.entry_zip_next (zl4 hh D hn hz hTI hTO lo h8 hd hend fun h' e hk he => ?_) (F.args_zip_next_1 _))))
  obtain⟨o,ho,hc⟩:=he;refine wpAny_bind (wpAny_isInstance (T := "StopIteration") (b:=true) ⟨o,ho,hc⟩ isSubtype_stop ?_);exact wpAny_pure (hQ _ hk)
end
def SrcAt(h:Heap)(b:Bool)(l:Addr)(xs:Array Value):Prop:=if b=true then h.IsList l xs else h.IsTuple l xs
def xl(b:Bool)(l:Addr):Obj:={ cls:=.type (if b=true then "list_iterator" else "tuple_iterator"),data:=.fields #[.ref l,.int 0 0] }
theorem SrcAt.push{h:Heap}{b:Bool}{l:Addr}{xs:Array Value}(q:SrcAt h b l xs)(o:Obj):SrcAt (h.push o) b l xs:=by
  cases b
  . obtain⟨p,e,r⟩:=(show h.IsTuple l xs from q)
    exact⟨p,Heap.get?_push_of_some _ e,r⟩
  . obtain⟨p,e,r⟩:=(show h.IsList l xs from q)
    exact⟨p,Heap.get?_push_of_some _ e,r⟩
theorem jm{prog:Program}{w:World}{A:Around}{E:Value->Shared->Prop}{s:Shared}{b:Bool}{l:Addr}{xs:Array Value}{Q:Value->Shared->Prop}(q:SrcAt s.heap b l xs)(hQ:Q (.ref s.heap.objs.size) { s with heap:=s.heap.push (xl b l) }) :
    wpAny (model prog w) A (pyIter (.ref l)) Q E s:=by
  cases b
  . exact wpAny_pyIter_tuple (show s.heap.IsTuple l xs from q) hQ
  . exact wpAny_pyIter_list (show s.heap.IsList l xs from q) hQ
theorem zfq(b1 b2 b3:Bool)(l1 l2 l3:Addr)(x1 x2 x3:Array Value) :
    Meets (Builtin.«zip.__new__» ⟨[.type "zip", .ref l1,.ref l2,.ref l3],[]⟩) (fun _ R s=>SrcAt s.heap b1 l1 x1/\SrcAt s.heap b2 l2 x2/\SrcAt s.heap b3 l3 x3 /\
      ∀h',h'=(((((s.heap.push (xl b1 l1)).push (xl b2 l2)).push (xl b3 l3)).push { cls:=.type "tuple", data:=.seq #[.ref s.heap.objs.size,.ref (s.heap.push (xl b1 l1)).objs.size,.ref ((s.heap.push (xl b1 l1)).push (xl b2 l2)).objs.size] }).push { cls:=.type "tuple", data:=.seq #[.none,.none,.none] }) ->
      R (.ok (.ret (.ref h'.objs.size))) { s with heap:=h'.push { cls:=.type "zip", data:=.fields #[.none,.bool false,.bool false,.ref (((s.heap.push (xl b1 l1)).push (xl b2 l2)).push (xl b3 l3)).objs.size,.ref ((((s.heap.push (xl b1 l1)).push (xl b2 l2)).push (xl b3 l3)).push { cls:=.type "tuple", data:=.seq #[.ref s.heap.objs.size,.ref (s.heap.push (xl b1 l1)).objs.size,.ref ((s.heap.push (xl b1 l1)).push (xl b2 l2)).objs.size] }).objs.size] } }) :=
  .of_wp fun prog w A R s h=>by
    obtain⟨hp,g,d,tk,os⟩:=s;obtain⟨hl1,hl2,hl3,h⟩:=h;have hsub:=sub_zip;have hL1:SrcAt (Shared.heap ⟨hp,g,d,tk,os⟩) b1 l1 x1:=hl1;have hL2:SrcAt (Shared.heap ⟨hp.push (xl b1 l1),g,d,tk,os⟩) b2 l2 x2:=SrcAt.push hl2 _;have hL3:SrcAt (Shared.heap ⟨(hp.push (xl b1 l1)).push (xl b2 l2),g,d,tk,os⟩) b3 l3 x3:=SrcAt.push (SrcAt.push hl3 _) _
    wp_walk using jm hL1,jm hL2,jm hL3
    exact⟨_,rfl,h _ rfl⟩
theorem ah(a b c:Value):checkTypeCall "zip" ⟨[a,b,c],[]⟩=pure ():=by kernel_rfl
theorem zbn(a b c:Value):checkBuiltinCall "zip.__new__" ⟨[.type "zip", a,b,c],[]⟩=pure ():=by kernel_rfl
theorem i5(a b c d:Value):argsOk "object.__init__" ⟨[a,b,c,d],[]⟩:=by
  unfold argsOk;rw[signature?_of (id := "object.__init__") (n:=['_','_','t','i','n','i','_','_']) (o:=['t','c','e','j','b','o']) (by kernel_rfl) F.owner_object];kernel_rfl
theorem DrAt.start{h:Heap}{b:Bool}{n l:Addr}{xs:Array Value}(e:h.get? n=some (xl b l))(q:SrcAt h b l xs):DrAt h ⟨n,l,xs⟩ 0:=by
  cases b
  . obtain⟨o,e',c,n,r⟩:=(show h.IsTuple l xs from q)
    exact⟨.inr ⟨_,e,rfl,rfl⟩,o,n,e',r⟩
  . obtain⟨o,e',c,n,r⟩:=(show h.IsList l xs from q)
    exact⟨.inl ⟨_,e,rfl,rfl⟩,o,n,e',r⟩
theorem SrcAt.keeps{h h':Heap}{b:Bool}{l:Addr}{xs:Array Value}(q:SrcAt h b l xs)(k:∀c o,h.get? c=some o->h'.get? c=some o):SrcAt h' b l xs:=by
  cases b
  . obtain⟨p,e,r⟩:=(show h.IsTuple l xs from q)
    exact⟨p,k _ _ e,r⟩
  . obtain⟨p,e,r⟩:=(show h.IsList l xs from q)
    exact⟨p,k _ _ e,r⟩
section
variable{prog:Program}{w:World}{A:Around}{E:Value->Shared->Prop}{s:Shared}
theorem zg5{b1 b2 b3:Bool}{l1 l2 l3:Addr}{x1 x2 x3:Array Value}{Q:Value->Shared->Prop}(hl1:SrcAt s.heap b1 l1 x1)(hl2:SrcAt s.heap b2 l2 x2)(hl3:SrcAt s.heap b3 l3 x3)
    (h:∀h',IsZip h' (s.heap.objs.size+5) (s.heap.objs.size+3) (s.heap.objs.size+4) .none->y6 h' (s.heap.objs.size+3) [.ref s.heap.objs.size,.ref (s.heap.objs.size+1),.ref (s.heap.objs.size+2)] ->
      y6 h' (s.heap.objs.size+4) [.none,.none,.none]->DrAt h' ⟨s.heap.objs.size,l1,x1⟩ 0->DrAt h' ⟨s.heap.objs.size+1,l2,x2⟩ 0->DrAt h' ⟨s.heap.objs.size+2,l3,x3⟩ 0 ->
      (∀c o,s.heap.get? c=some o->h'.get? c=some o)->Q (.ref (s.heap.objs.size+5)) { s with heap:=h' }) :
    wpAny (model prog w) A (call (.type "zip") [.ref l1,.ref l2,.ref l3]) Q E s:=by
  refine callType_new F.called_zip (by decide) (ah _ _ _) (zbn _ _ _) (fun obj=>i5 obj _ _ _) F.entry_zip_new
    (zfq b1 b2 b3 l1 l2 l3 x1 x2 x3) ⟨hl1,hl2,hl3,?_⟩
  intro h0 e0;generalize e1:s.heap.push (xl b1 l1)=h1 at *;have z1:h1.objs.size=s.heap.objs.size+1:=by rw[<-e1];exact Heap.size_push ..
  generalize e2:h1.push (xl b2 l2)=h2 at *;have z2:h2.objs.size=s.heap.objs.size+2:=by rw[<-e2,Heap.size_push,z1]
  generalize e3:h2.push (xl b3 l3)=h3 at *;have z3:h3.objs.size=s.heap.objs.size+3:=by rw[<-e3,Heap.size_push,z2]
  rw[z1,z2]at e0;rw[z1,z2,z3];generalize e4:h3.push { cls:=.type "tuple", data:=.seq #[.ref s.heap.objs.size,.ref (s.heap.objs.size+1),.ref (s.heap.objs.size+2)] }=h4 at *;have z4:h4.objs.size=s.heap.objs.size+4:=by rw[<-e4,Heap.size_push,z3]
  have z5:h0.objs.size=s.heap.objs.size+5:=by rw[e0,Heap.size_push,z4]
  rw[z4,z5];have k1:∀c o,s.heap.get? c=some o->h1.get? c=some o:=fun c o q=>by rw[<-e1];exact Heap.get?_push_of_some _ q
  have k2:∀c o,h1.get? c=some o->h2.get? c=some o:=fun c o q=>by rw[<-e2];exact Heap.get?_push_of_some _ q
  have k3:∀c o,h2.get? c=some o->h3.get? c=some o:=fun c o q=>by rw[<-e3];exact Heap.get?_push_of_some _ q
  have k4:∀c o,h3.get? c=some o->h4.get? c=some o:=fun c o q=>by rw[<-e4];exact Heap.get?_push_of_some _ q
  have k5:∀c o,h4.get? c=some o->h0.get? c=some o:=fun c o q=>by rw[e0];exact Heap.get?_push_of_some _ q
  have g1:h1.get? s.heap.objs.size=some (xl b1 l1):=by rw[<-e1];exact Heap.get?_push_size _ rfl
  have g2:h2.get? (s.heap.objs.size+1)=some (xl b2 l2):=by rw[<-e2,<-z1];exact Heap.get?_push_size _ rfl
  have g3:h3.get? (s.heap.objs.size+2)=some (xl b3 l3):=by rw[<-e3,<-z2];exact Heap.get?_push_size _ rfl
  have g4:h4.get? (s.heap.objs.size+3)=some { cls:=.type "tuple", data:=.seq #[.ref s.heap.objs.size,.ref (s.heap.objs.size+1),.ref (s.heap.objs.size+2)] }:=by rw[<-e4,<-z3];exact Heap.get?_push_size _ rfl
  have g5:h0.get? (s.heap.objs.size+4)=some { cls:=.type "tuple", data:=.seq #[.none,.none,.none] }:=by rw[e0,<-z4];exact Heap.get?_push_size _ rfl
  generalize ezo:({ cls:=.type "zip", data:=.fields #[.none,.bool false,.bool false,.ref (s.heap.objs.size+3),.ref (s.heap.objs.size+4)] }:Obj)=zo at *;have k6:∀c o,h0.get? c=some o->(h0.push zo).get? c=some o:=fun c o q=>Heap.get?_push_of_some _ q
  have g6:(h0.push zo).get? (s.heap.objs.size+5)=some zo:=by rw[<-z5];exact Heap.get?_push_size _ (by rw[<-ezo];rfl)
  have kk:∀c o,s.heap.get? c=some o->(h0.push zo).get? c=some o:=fun c o q=>k6 _ _ (k5 _ _ (k4 _ _ (k3 _ _ (k2 _ _ (k1 _ _ q)))))
  show _/\_
  have g7:IsZip (h0.push zo) (s.heap.objs.size+5) (s.heap.objs.size+3) (s.heap.objs.size+4) .none:=by
    show(h0.push zo).get? _=_
    rw[g6,<-ezo]
  refine⟨⟨_,g7,rfl⟩,h _ g7 (k6 _ _ (k5 _ _ g4)) (k6 _ _ g5) ?_ ?_ ?_ kk⟩
  . exact DrAt.start (b:=b1) (k6 _ _ (k5 _ _ (k4 _ _ (k3 _ _ (k2 _ _ g1))))) (hl1.keeps kk)
  . exact DrAt.start (b:=b2) (k6 _ _ (k5 _ _ (k4 _ _ (k3 _ _ g2)))) (hl2.keeps kk)
  . exact DrAt.start (b:=b3) (k6 _ _ (k5 _ _ (k4 _ _ g3))) (hl3.keeps kk)
end
end L2
namespace L2
open PySem PySem.Spec PyProof.Rows
def SqA(K:Fg)(H:Hp)(a:Addr)(xs:List V):Prop:=SqL K H a xs\/SqT K H a xs
structure qk(K:Fg)(H:Hp)(as:List Addr)(xss:List (List V)):Prop where
  len:as.length=xss.length
  at':∀(j:Nat) (a:Addr) (xs:List V),as[j]? = some a->xss[j]? = some xs->SqA K H a xs
def ItN(K:Fg)(as:List Addr):It :=
  ⟨fun i H=>∃xss,qk K H as xss/\∀xs∈xss,i<xs.length,
   fun i H v H'=>∃T vs,v=.ref T/\H T=none/\H'=upd H T (.tup vs)/\∀xss,qk K H as xss->vs.length=xss.length/\∀(j:Nat) (xs:List V),xss[j]? = some xs->xs[i]? = vs[j]?,
   fun i H=>∃xss,qk K H as xss/\∃xs∈xss,xs.length<=i⟩
def zhc(z TI TO:Addr)(its ls:List Addr)(i:Nat)(h:Heap):Prop :=
  IsZip h z TI TO .none/\y6 h TI (its.map fun a=>.ref a)/\(∃old,y6 h TO old/\old.length=its.length)/\∀(j:Nat) (it l:Addr),its[j]? = some it->ls[j]? = some l->h.IsListIter it l i\/h.IsTupleIter it l i
structure zdk(z TI TO:Addr)(its:List Addr):Prop where
  TIz:TI≠z
  TOz:TO≠z
  TITO:TI≠TO
  iz:∀it∈its,it≠z/\it≠TI/\it≠TO
  nd:its.Nodup
section
variable{X:Cx}{pins:List (Addr×Obj)}{σ:St}{H:Hp}{s:Shared}
theorem Inv.sqA(I:Inv X pins σ H s){a:Addr}{xs:List V}(q:SqA X.K H a xs):∃us:List Value,Vals xs us/\SeqH s.heap a us.toArray:=by
  rcases q with q | q
  . obtain⟨us,r,pl,_⟩:=I.list q
    obtain⟨o,e,c,n,d⟩:=pl.isList;exact⟨us,r,o,n,e,d⟩
  . obtain⟨us,r,⟨o,e,c,n,d⟩,_⟩:=I.tuple q
    exact⟨us,r,o,n,e,d⟩
theorem Inv.sqA_inj(I:Inv X pins σ H s){a:Addr}{xs ys:List V}(q:SqA X.K H a xs)(q':SqA X.K H a ys):xs=ys:=by
  obtain⟨us,r,o,n,e,d⟩:=I.sqA q;obtain⟨us',r',o',n',e',d'⟩:=I.sqA q';rw[e]at e';cases e';rw[d]at d'
  injection d' with d1 _
  have:us=us':=by simpa using congrArg Array.toList d1
  subst this;exact r.inj r'
theorem Inv.sqA_ne(I:Inv X pins σ H s){a b:Addr}{xs:List V}(q:SqA X.K H a xs)(f:FpOk X pins H b):a≠b:=by
  rintro rfl
  have hk:∀o,X.K.lookup a=some o->False:=fun o hk=>by
    have e:X.base.get? a=some o:=I.ok.mod.kin a o hk
    rcases f.2.2.2.1 with z | z
    . exact I.ok.noex _ _ e z
    . exact absurd (Heap.lt_size (I.ok.bs a o e).1) (ZD.mpr z)
  rcases q with ((q | ⟨o,q⟩) | ⟨o,its,n,q,_⟩) | ((q | ⟨o,q⟩) | ⟨o,its,n,q,_⟩)
  . rw[f.1]at q;cases q
  . rw[f.1]at q;cases q
  . exact hk o q
  . rw[f.1]at q;cases q
  . rw[f.1]at q;cases q
  . exact hk o q
def mkDs:List Addr->List Addr->List (List Value)->List Drw
  | it::its,l::ls,u::us=>⟨it,l,u.toArray⟩::mkDs its ls us
  | _,_,_=>[]
theorem vj:∀{its ls:List Addr} {us:List (List Value)},its.length=ls.length->ls.length=us.length->∀(j:Nat) (d:Drw),(mkDs its ls us)[j]? = some d↔∃it l u,its[j]? = some it/\ls[j]? = some l/\us[j]? = some u/\d=⟨it,l,u.toArray⟩
  | [],[],[],_,_,j,d=>by simp[mkDs]
  | it::its,l::ls,u::us,h1,h2,0,d=>by
    simp only[mkDs,List.getElem?_cons_zero,Option.some.injEq]
    constructor
    . intro e;exact⟨it,l,u,rfl,rfl,rfl,e.symm⟩
    . rintro⟨a,b,c,rfl,rfl,rfl,e⟩;exact e.symm
  | it::its,l::ls,u::us,h1,h2,j+1,d=>by
    simp only[mkDs,List.getElem?_cons_succ];exact vj (by simpa using h1) (by simpa using h2) j d
theorem dw:∀{its ls:List Addr} {us:List (List Value)},its.length=ls.length->ls.length=us.length->(mkDs its ls us).length=its.length
  | [],[],[],_,_=>rfl
  | it::its,l::ls,u::us,h1,h2=>by
    simp only[mkDs,ZL];rw[dw (by simpa using h1) (by simpa using h2)]
theorem d6:∀{its ls:List Addr} {us:List (List Value)},its.length=ls.length->ls.length=us.length->(mkDs its ls us).map (fun d=>Value.ref d.it)=its.map fun a=>Value.ref a
  | [],[],[],_,_=>rfl
  | it::its,l::ls,u::us,h1,h2=>by
    simp only[mkDs,ZM];rw[d6 (by simpa using h1) (by simpa using h2)]
theorem j4(I:Inv X pins σ H s):∀{as:List Addr} {xss:List (List V)},qk X.K H as xss->∃uss:List (List Value),as.length=uss.length/\∀(j:Nat) (a:Addr) (xs:List V) (us:List Value),as[j]? = some a->xss[j]? = some xs->uss[j]? = some us->Vals xs us/\SeqH s.heap a us.toArray
  | [],[],_=>⟨[],rfl,fun j a xs us e=>by simp at e⟩
  | a::as,xs::xss,q=>by
    obtain⟨us,r,sq⟩:=I.sqA (q.at' 0 a xs rfl rfl);obtain⟨uss,l,f⟩:=j4 I (as:=as) (xss:=xss) ⟨by simpa using q.len,fun j b ys e1 e2=>q.at' (j+1) b ys (by simpa using e1) (by simpa using e2)⟩;refine⟨us::uss,by simp[l],fun j b ys vs e1 e2 e3 => ?_⟩
    cases j with
    | zero =>
      simp at e1 e2 e3;subst e1 e2 e3;exact⟨r,sq⟩
    | succ j=>exact f j b ys vs (by simpa using e1) (by simpa using e2) (by simpa using e3)
  | [],xs::xss,q=>by simpa using q.len
  | a::as,[],q=>by simpa using q.len
theorem zid(I:Inv X pins σ H s){as:List Addr}{xss yss:List (List V)}(q:qk X.K H as xss)(q':qk X.K H as yss):xss=yss:=by
  refine List.ext_getElem? fun j => ?_
  cases e1:xss[j]? with
  | none =>
    have:=List.getElem?_eq_none_iff.mp e1;exact(List.getElem?_eq_none (by rw[<-q'.len,q.len];exact this)).symm
  | some xs =>
    have hj:=(Zc.mp e1).1;have hj1:j<as.length:=by rw[q.len];exact hj
    have hj2:j<yss.length:=by rw[<-q'.len];exact hj1
    rw[Zb hj2,I.sqA_inj (q.at' j _ xs (Zb hj1) e1) (q'.at' j _ _ (Zb hj1) (Zb hj2))]
theorem c9(I:Inv X pins σ H s){z TI TO:Addr}{its ls:List Addr}(D:zdk z TI TO its)(hl:its.length=ls.length){i:Nat}(hf:∀b∈z::TI::TO::its,FpOk X pins H b)(st:zhc z TI TO its ls i s.heap){xss:List (List V)}(q:qk X.K H ls xss)
    {uss:List (List Value)} (lu:ls.length=uss.length) (hu:∀(j:Nat) (a:Addr) (xs:List V) (us:List Value),ls[j]? = some a->xss[j]? = some xs->uss[j]? = some us->Vals xs us/\SeqH s.heap a us.toArray) :
    ip z TI TO (mkDs its ls uss)/\∀d∈mkDs its ls uss,DrAt s.heap d i:=by
  have get:∀d∈mkDs its ls uss,∃(j:Nat) (it l:Addr) (u:List Value) (xs:List V),its[j]? = some it/\ls[j]? = some l/\uss[j]? = some u/\xss[j]? = some xs/\d=⟨it,l,u.toArray⟩:=fun d hd=>by
    obtain⟨j,hj,e⟩:=Zy hd;obtain⟨it,l,u,e1,e2,e3,e4⟩:=(vj hl lu j d).mp (by rw[<-e];exact Zb hj);have hjx:j<xss.length:=by rw[<-q.len];exact(Zc.mp e2).1
    exact⟨j,it,l,u,_,e1,e2,e3,Zb hjx,e4⟩
  have at0:∀d∈mkDs its ls uss,DrAt s.heap d i:=fun d hd=>by
    obtain⟨j,it,l,u,xs,e1,e2,e3,e4,rfl⟩:=get d hd;exact⟨st.2.2.2 j it l e1 e2,(hu j l xs u e2 e4 e3).2⟩
  have sq:∀d∈mkDs its ls uss,∃xs,SqA X.K H d.l xs:=fun d hd=>by
    obtain⟨j,it,l,u,xs,e1,e2,e3,e4,rfl⟩:=get d hd;exact⟨xs,q.at' j l xs e2 e4⟩
  have itm:∀d∈mkDs its ls uss,d.it∈its:=fun d hd=>by
    obtain⟨j,it,l,u,xs,e1,e2,e3,e4,rfl⟩:=get d hd;exact Zi e1
  refine⟨⟨D.TIz,D.TOz,D.TITO,fun d hd=>D.iz _ (itm d hd),fun d hd => ?_,fun j k d e ej ek hjk => ?_,fun d e hd he => ?_⟩,at0⟩
  . obtain⟨xs,q1⟩:=sq d hd
    exact⟨I.sqA_ne q1 (hf z (by simp)),I.sqA_ne q1 (hf TO (by simp))⟩
  . obtain⟨it,l,u,a1,_,_,rfl⟩:=(vj hl lu j d).mp ej
    obtain⟨it',l',u',a1',_,_,rfl⟩:=(vj hl lu k e).mp ek;intro heq;have heq':it=it':=heq;subst heq';obtain⟨h1,g1⟩:=Zc.mp a1;obtain⟨h2,g2⟩:=Zc.mp a1';exact hjk ((YX D.nd).mp (g1.trans g2.symm))
  . obtain⟨xs,q1⟩:=sq d hd
    exact I.sqA_ne q1 (hf e.it (by simp[itm e he]))
end
theorem zi9{P:Program}{w:World}{K:Fg}{elts:List Expr}{x1:Nat}{pos:Pos}(z TI TO:Addr)(its ls:List Addr)(D:zdk z TI TO its)(hl:its.length=ls.length)(hn:its≠[])(h8:its.length<=8) :
    Turn P w K (.Tuple elts x1 pos) (ItN K ls) (z::TI::TO::its) z (zhc z TI TO its ls) where
  mem:=by simp
  obj:=fun i h st b hb=>by
    obtain⟨hz,hTI,⟨old,hTO,_⟩,hi⟩:=st;simp only[ZK]at hb
    rcases hb with rfl | rfl | rfl | hb
    . exact⟨_,hz,fun v q=>by cases q⟩
    . exact⟨_,hTI,fun v q=>by cases q⟩
    . exact⟨_,hTO,fun v q=>by cases q⟩
    . obtain⟨j,hj,e⟩:=Zy hb
      have hj2:j<ls.length:=by rw[<-hl];exact hj
      rcases hi j b _ (by rw[<-e];exact Zb hj) (Zb hj2) with ⟨o,e1,_,d1⟩ | ⟨o,e1,_,d1⟩
      . exact⟨o,e1,fun v q=>by rw[d1]at q;cases q⟩
      . exact⟨o,e1,fun v q=>by rw[d1]at q;cases q⟩
  keep:=fun i h h' st k=>by
    obtain⟨hz,hTI,⟨old,hTO,lo⟩,hi⟩:=st;refine⟨k z (by simp) _ hz,k TI (by simp) _ hTI,⟨old,k TO (by simp) _ hTO,lo⟩,fun j it l e1 e2 => ?_⟩;have hm:it∈z::TI::TO::its:=by simp[Zi e1]
    rcases hi j it l e1 e2 with ⟨o,a,r⟩ | ⟨o,a,r⟩
    . exact .inl ⟨o,k it hm o a,r⟩
    . exact .inr ⟨o,k it hm o a,r⟩
  item:=by
    intro X hP hw hK hc i pins s σ H E I hf st hg;subst hP hw hK;obtain⟨xss,q,hlen⟩:=hg;obtain⟨uss,lu,hu⟩:=j4 I q;obtain⟨A,at0⟩:=c9 I D hl hf st q lu hu;obtain⟨hz,hTI,⟨old,hTO,lo⟩,hi⟩:=id st;have dl:=dw hl lu
    -- the values of this turn
    have hvs:∃(vs:List V) (ws:List Value),Vals vs ws/\vs.length=xss.length/\ws.length=xss.length/\(∀(j:Nat) (xs:List V),xss[j]? = some xs->xs[i]? = vs[j]?)/\∀(j:Nat) (us:List Value),uss[j]? = some us->us[i]? = ws[j]? := by
      have go:∀(ys:List (List V)) (us:List (List Value)),ys.length=us.length->(∀xs∈ys,i<xs.length)->(∀(j:Nat) (xs:List V) (u:List Value),ys[j]? = some xs->us[j]? = some u->Vals xs u) ->
          ∃(vs:List V) (ws:List Value),Vals vs ws/\vs.length=ys.length/\ws.length=ys.length/\(∀(j:Nat) (xs:List V),ys[j]? = some xs->xs[i]? = vs[j]?)/\∀(j:Nat) (u:List Value),us[j]? = some u->u[i]? = ws[j]? := by
        intro ys
        induction ys with
        | nil =>
          intro us hl _ _
          cases us with
          | nil=>exact⟨[],[],.nil,rfl,rfl,fun j xs e=>by simp at e,fun j xs e=>by simp at e⟩
          | cons _ _=>simp at hl
        | cons y ys ih =>
          intro us hl h1 h2
          cases us with
          | nil=>simp at hl
          | cons u us =>
            obtain⟨vs,ws,r,l1,l2,g1,g2⟩:=ih us (by simpa using hl) (fun xs hx=>h1 xs (Zv _ hx)) fun j xs v e1 e2=>h2 (j+1) xs v (by simpa using e1) (by simpa using e2)
            have hy:i<y.length:=h1 y ZA;have r0:=h2 0 y u rfl rfl;obtain⟨x,hx,rx⟩:=r0.get (Zb hy);refine⟨y[i]::vs,x::ws,.cons rx r,by simp[l1],by simp[l2],fun j xs e => ?_,fun j v e => ?_⟩
            . cases j with
              | zero =>
                simp at e;subst e;simp[hy]
              | succ j=>simpa using g1 j xs (by simpa using e)
            . cases j with
              | zero =>
                simp at e;subst e
                simpa using hx
              | succ j=>simpa using g2 j v (by simpa using e)
      refine go xss uss (by rw[<-q.len,lu]) hlen fun j xs u e1 e2 => ?_
      have hj:j<ls.length:=by rw[lu];exact(Zc.mp e2).1
      exact(hu j _ xs u (Zb hj) e1 e2).1
    obtain⟨vs,ws,rvs,lv,lw,gv,gw⟩:=hvs;refine d5 (vs:=ws) (old:=old) A (fun e=>hn (by have:=congrArg List.length e;rw[dl]at this;exact ZZ.mp this)) hz (by rw[d6 hl lu];exact hTI) hTO (by rw[lw,dl,hl,q.len]) (by rw[lo,dl]) (by rw[dl];exact h8) at0 (fun j d ed => ?_) fun h' a1 a2 a3 a4 a5 hk => ?_
    . obtain⟨it,l,u,e1,e2,e3,rfl⟩:=(vj hl lu j d).mp ed
      show u.toArray[i]? = _
      rw[List.getElem?_toArray];exact gw j u e3
    have ltT:∀{c o},s.heap.get? c=some o->c≠s.heap.objs.size:=fun e=>Zs (Heap.lt_size e)
    refine⟨_,rfl,wpAny_letOwnedTupleGo_zip (s:={ s with heap:=h' }) a1 fun h'' b1 sb => ?_⟩;have hTz:s.heap.objs.size≠z:=Ne.symm (ltT hz)
    have itz:∀d∈mkDs its ls uss,d.it∈its:=fun d hd=>by
      obtain⟨j,hj,e⟩:=Zy hd;obtain⟨it,l,u,e1,_,_,e4⟩:=(vj hl lu j d).mp (by rw[<-e];exact Zb hj);rw[e4];exact Zi e1
    have kk:∀c o,c∉z::TO::its->s.heap.get? c=some o->h''.get? c=some o:=fun c o hc e=>by
      simp only[ZK,not_or]at hc;exact sb.extBut c o hc.1 (hk c o hc.1 hc.2.1 (fun d hd z=>hc.2.2 (z▸itz d hd)) e)
    have hf4:∀b∈z::TO::its,FpOk X pins H b:=fun b hb=>hf b (by
      simp only[ZK]at hb ⊢
      rcases hb with h | h | h
      . exact .inl h
      . exact .inr (.inr (.inl h))
      . exact .inr (.inr (.inr h)))
    have hvl:vs.length<=sizeLine:=Zd (show vs.length<=8 by rw[lv,<-q.len,<-hl];exact h8) (by decide)
    have I1:Inv X pins σ (upd H s.heap.objs.size (.tup vs)) { s with heap:=h'',toks:=s.toks }:=I.turnedLaid (ch:=z::TO::its) hf4 (fun b o hb e=>kk b o hb e) (Zm _) ⟨hvl,ws,rvs,by
        have e:=sb.extBut _ _ hTz a4
        exact⟨_,e,rfl,_,rfl,rfl⟩⟩
    refine⟨.ref s.heap.objs.size,_,I1,rfl,⟨s.heap.objs.size,vs,rfl,I.hok.fresh (Zm _),rfl,fun yss q' => ?_⟩,?_,fun b hb => ?_⟩
    . rw[zid I q' q]
      exact⟨lv,gv⟩
    . refine⟨b1,sb.extBut _ _ D.TIz (hk _ _ D.TIz D.TITO (fun d hd=>Ne.symm (A.iz d hd).2.1) hTI),⟨ws,sb.extBut _ _ D.TOz a2,by rw[lw,<-q.len,hl]⟩,fun j it l e1 e2 => ?_⟩
      have hj3:j<uss.length:=by rw[<-lu];exact(Zc.mp e2).1
      have hm:(⟨it,l,(uss[j]).toArray⟩:Drw)∈mkDs its ls uss:=Zi ((vj hl lu j _).mpr ⟨it,l,_,e1,e2,Zb hj3,rfl⟩);have hne:it≠z:=(A.iz _ hm).1
      rcases (a3 _ hm).1 with ⟨o,a,r⟩ | ⟨o,a,r⟩
      . exact .inl ⟨o,sb.extBut _ _ hne a,r⟩
      . exact .inr ⟨o,sb.extBut _ _ hne a,r⟩
    . have hb':=(hf b hb).1
      rw[z8 ?_]
      . exact hb'
      . simp only[ZK]at hb
        rcases hb with rfl | rfl | rfl | hb
        . exact ltT hz
        . exact ltT hTI
        . exact ltT hTO
        . obtain⟨j,hj,e⟩:=Zy hb
          have hj2:j<ls.length:=by rw[<-hl];exact hj
          rcases hi j b _ (by rw[<-e];exact Zb hj) (Zb hj2) with ⟨o,e1,_⟩ | ⟨o,e1,_⟩ <;> exact ltT e1
  done:=by
    intro X hP hw hK hc i pins s σ H E I hf st hg;subst hP hw hK;obtain⟨xss,q,xs,hxm,hle⟩:=hg;obtain⟨uss,lu,hu⟩:=j4 I q;obtain⟨A,at0⟩:=c9 I D hl hf st q lu hu;obtain⟨hz,hTI,⟨old,hTO,lo⟩,hi⟩:=id st;have dl:=dw hl lu
    have itz:∀d∈mkDs its ls uss,d.it∈its:=fun d hd=>by
      obtain⟨j,hj,e⟩:=Zy hd;obtain⟨it,l,u,e1,_,_,e4⟩:=(vj hl lu j d).mp (by rw[<-e];exact Zb hj);rw[e4];exact Zi e1
    refine cf (old:=old) (I.ok.hd hc) A (fun e=>hn (by have:=congrArg List.length e;rw[dl]at this;exact ZZ.mp this)) hz (by rw[d6 hl lu];exact hTI) hTO (by rw[lo,dl]) (by rw[dl];exact h8) at0 ?_ fun h' hk=>⟨rfl,?_⟩
    . obtain⟨j,hj,e⟩:=Zy hxm
      have ex:xss[j]? = some xs:=by rw[<-e];exact Zb hj
      have hj1:j<ls.length:=by rw[q.len];exact hj
      have hj2:j<its.length:=by rw[hl];exact hj1
      have hj3:j<uss.length:=by rw[<-lu];exact hj1
      refine⟨⟨its[j],ls[j],(uss[j]).toArray⟩,Zi ((vj hl lu j _).mpr ⟨_,_,_,Zb hj2,Zb hj1,Zb hj3,rfl⟩),?_⟩;have r:=(hu j _ xs _ (Zb hj1) ex (Zb hj3)).1;have rl:=r.length
      show(uss[j]).toArray[i]? = none
      rw[List.getElem?_toArray];exact List.getElem?_eq_none (by omega)
    have nch:∀b u,H b=some u->b∉z::TO::its:=fun b u e q=>by
      have:=(hf b (by
        simp only[ZK]at q ⊢
        rcases q with h | h | h
        . exact .inl h
        . exact .inr (.inr (.inl h))
        . exact .inr (.inr (.inr h)))).1
      rw[this]at e;cases e
    have k:∀b o,b∉z::TO::its->s.heap.get? b=some o->h'.get? b=some o:=fun b o hb e=>by
      simp only[ZK,not_or]at hb;exact hk b o hb.1 hb.2.1 (fun d hd z=>hb.2.2 (z▸itz d hd)) e
    have hf4:∀b∈z::TO::its,FpOk X pins H b:=fun b hb=>hf b (by
      simp only[ZK]at hb ⊢
      rcases hb with h | h | h
      . exact .inl h
      . exact .inr (.inr (.inl h))
      . exact .inr (.inr (.inr h)))
    exact I.step (g':=s.gens) (d':=s.drawn) (t':=s.toks) (ch:=z::TO::its) (fun b hb=>by
        obtain⟨f0,f1,f2,f3,f4,f5⟩:=hf4 b hb
        exact⟨f3,f1,f4,f5⟩) (fun b o _ _ hc e _=>k b o hc e) (fun b o _ _ hc e _=>⟨o.slots,k b o hc e⟩) (fun b o _ e n=>n)
      (fun b o hc e=>⟨o,k b o hc e⟩) (fun b xs e=>e) (fun b ob u e=>e) (fun b ps e=>⟨#[],by rw[e];simp⟩) (fun m hm=>by
        obtain⟨ob,es,ep,ho,r⟩:=hm
        exact⟨ob,es,ep,k _ ob (fun q=>(hf4 _ q).2.1 rfl) ho,r⟩) (fun b u e=>(I.hok b u e).stay (fun c v hc q=>k c v (by
          rcases hc with r | r
          . rw[r];exact nch b u e
          . exact nch c _ r) q) (fun _ q=>q) fun _ _ q=>q) I.bare
  self:=fun _ _ _ _ _ st h=>wpAny_pyIter_zip st.1 h
theorem Inv.src{X:Cx}{pins:List (Addr×Obj)}{σ:St}{H:Hp}{s:Shared}(I:Inv X pins σ H s){a:Addr}{xs:List V}(q:SqA X.K H a xs):∃b us,SrcAt s.heap b a us:=by
  rcases q with q | q
  . obtain⟨us,r,pl,_⟩:=I.list q
    exact⟨true,_,pl.isList⟩
  . obtain⟨us,r,pl,_⟩:=I.tuple q
    exact⟨false,_,pl⟩
def iZip3(K:Fg)(ta:TA):TI:=fun σ H R=>ta σ H fun vs H1=>∃a b c,vs=[.ref a,.ref b,.ref c]/\(∃xss,qk K H1 [a,b,c] xss)/\R (ItN K [a,b,c]) H1
theorem e_zip3{K:Fg}{ta:TA}{σ:St}{H:Hp}{R:It->Hp->Prop}:iZip3 K ta σ H R=ta σ H fun vs H1=>∃a b c,vs=[.ref a,.ref b,.ref c]/\(∃xss,qk K H1 [a,b,c] xss)/\R (ItN K [a,b,c]) H1:=rfl
theorem Vals.three{x y z:V}{us:List Value}(r:Vals [x,y,z] us):∃u v w,us=[u,v,w]/\RelV x u/\RelV y v/\RelV z w:=by
  cases r with
  | cons r1 r=>cases r with
    | cons r2 r=>cases r with
      | cons r3 r =>
        cases r;exact⟨_,_,_,rfl,r1,r2,r3⟩
theorem zlo {X:Cx} {a b c:Expr} {ta:TA} {p pos tpos:Pos} {elts:List Expr} {x1:Nat} (hg:Gl X "zip") (hm:X.mg "zip" = none) (ha:PA X [a,b,c] ta)
    (hs:starEach [a,b,c] X.env=(false,eval a X.env)::starEach [b,c] X.env:=by rfl) (hs2:(backTo pos (starEach [b,c] X.env)).any (·.1)=false:=by rfl) :
    PI X (.Tuple elts x1 tpos) (.Call (.Name "zip" p) [a,b,c] [] pos) (iZip3 X.K ta):=by
  intro pins s σ H R I h;refine Call_ (ou I hg hm zh1 (PyProof.Rows.callWith_type1 (thn (ha pos pins s σ H _ I h) fun us s1 ⟨vs,H1,I1,r1,q1⟩ => ?_) hs hs2));obtain⟨a,b,c,e,⟨xss,qa⟩,q⟩:=q1;subst e;obtain⟨u,v,y,rfl,ru,rv,ry⟩:=Vals.three r1;cases ru;cases rv;cases ry
  match xss,qa with
  | [xa,xb,xc],qa =>
  obtain⟨k1,y1,s1'⟩:=I1.src (qa.at' 0 a xa rfl rfl);obtain⟨k2,y2,s2'⟩:=I1.src (qa.at' 1 b xb rfl rfl);obtain⟨k3,y3,s3'⟩:=I1.src (qa.at' 2 c xc rfl rfl);refine zg5 s1' s2' s3' fun h' z1 z2 z3 z4 z5 z6 kp => ?_
  refine wpAny_pyIter_zip (s:={ s1 with heap:=h' }) z1 ?_;have I2:Inv X pins σ H1 { s1 with heap:=h' }:=I1.kept (t':=s1.toks) kp
  have D:zdk (s1.heap.objs.size+5) (s1.heap.objs.size+3) (s1.heap.objs.size+4) [s1.heap.objs.size,s1.heap.objs.size+1,s1.heap.objs.size+2]:=by
    refine⟨(by show(_:Nat)≠_;omega),(by show(_:Nat)≠_;omega),(by show(_:Nat)≠_;omega),fun it hi => ?_,?_⟩
    . simp only[ZK,Zx,or_false]at hi
      rcases hi with rfl | rfl | rfl <;> refine⟨?_,?_,?_⟩ <;> (show(_:Nat)≠_;omega)
    . simp
  refine⟨s1.heap.objs.size+5,(s1.heap.objs.size+5)::(s1.heap.objs.size+3)::(s1.heap.objs.size+4)::[s1.heap.objs.size,s1.heap.objs.size+1,s1.heap.objs.size+2],_,_,H1,rfl,I2,zi9 _ _ _ [s1.heap.objs.size,s1.heap.objs.size+1,s1.heap.objs.size+2] [a,b,c] D rfl (by simp) (by simp),⟨z1,z2,⟨_,z3,rfl⟩,fun j it l e1 e2 => ?_⟩,fun e he => ?_,q⟩
  . match j with
    | 0=>simp at e1 e2;subst e1 e2;exact z4.1
    | 1=>simp at e1 e2;subst e1 e2;exact z5.1
    | 2=>simp at e1 e2;subst e1 e2;exact z6.1
    | j+3=>simp at e1
  have hle:s1.heap.objs.size<=e:=by
    simp only[ZK,Zx,or_false]at he
    rcases he with h | h | h | h | h | h <;> (rw[h];omega)
  exact I1.fpOk hle (I1.hok.fresh hle)
section
variable{σ:St}{k:Nat}{g:TG}{tt:TT}{te:TE}{H1:Hp}{Fin:List V->Hp->Prop}
theorem zi2{K:Fg}{as:List Addr}{xss:List (List V)}{n:Nat}(Pv:Nat->List V->Hp->Prop)(h0:Pv 0 [] H1)(hn:∀xs∈xss,n<=xs.length)(he:∃xs∈xss,xs.length=n)(hz:∀i ys H,i<=n->Pv i ys H->ys.length<=sizeLine/\qk K H as xss)
    (hs:∀i vs ys H T,i<n->vs.length=xss.length->(∀(j:Nat) (xs:List V),xss[j]? = some xs->xs[i]? = vs[j]?)->H T=none->Pv i ys H->g (.ref T) (List.replicate k none++σ) (upd H T (.tup vs)) fun σ2 H2=>σ2.drop k=σ/\tt σ2 H2 fun b H3=>if b=true then te σ2 H3 fun v H4=>Pv (i+1) (ys++[v]) H4 else Pv (i+1) ys H3)
    (hd:∀ys H,Pv n ys H->Fin ys H):ra (ItN K as) σ k g tt te H1 Fin:=by
  refine⟨fun i m ys H=>m=n-i/\i<=n/\Pv i ys H,⟨n,by simp,ZE _,h0⟩,?_⟩
  rintro i m ys H ⟨rfl,hi,p⟩
  obtain⟨q0,qa⟩:=hz i ys H hi p;refine⟨q0,?_⟩
  by_cases hlt:i<n
  . refine .inr ⟨⟨xss,qa,fun xs hx=>Zh hlt (hn xs hx)⟩,Pv (i+1),fun ys' H' p'=>⟨n-(i+1),by omega,rfl,hlt,p'⟩,fun x H' y => ?_⟩
    obtain⟨T,vs,rfl,hT,rfl,hy⟩:=y;obtain⟨l,f⟩:=hy xss qa;exact hs i vs ys _ T hlt l f hT p
  . have e:i=n:=by omega
    subst e;obtain⟨xs,hx,el⟩:=he;exact .inl ⟨⟨xss,qa,xs,hx,by omega⟩,hd ys H p⟩
end
end L2
namespace L2
open PySem PySem.Spec PyProof.Rows
theorem zba:entryFor table "dict.update.loop" = some Builtin.«dict.update.loop» := entryFor_of_tree (by kernel_rfl)
theorem kd:plainId "dict.update.loop" = true:=by decide +kernel
theorem ak:typeLookup (.type "list") "keys" = pure none:=by rw[typeLookup_type,builtinLookup_eq_fast];kernel_rfl
theorem i8{prog:Program}{w:World}{A:Around}{E:Value->Shared->Prop}{s:Shared}{a:Addr}{o:Obj}{xs:Array Value}{k:Nat}{Q:Option Value->Shared->Prop}
    (hx:s.heap.get? a=some o) (hc:o.cls=.type "list") (hdat:o.data=.seq xs k) (hd:o.dict=none) (hA:A.handled=none)
    (h:∀h' tk,(∀b o,s.heap.get? b=some o->h'.get? b=some o)->Q none { s with heap:=h',toks:=tk }) :
    wpAny (model prog w) A (getAttr? (.ref a) "keys") Q E s:=by
  obtain⟨c,dct,dat,sl⟩:=o;simp only at hc hdat hd;subst hc hdat hd;obtain⟨hp,g,d,tk,os⟩:=s;have hT:∀tk',(⟨hp,g,d,tk',os⟩:Shared).TypeIs (.ref a) "list" := fun _=>⟨_,hx,rfl⟩
  have f1:=sub_AttributeError;have f3:=F.slot_list_getattribute.lookup;have f4:=F.slot_list_getattribute.bind (.ref a);have f5:=am_list_getattr_none;unfold getAttr? getAttrBy? getAttrBy
  repeat (any_goals (first | assumption | exact hT _ | ((with_reducible show wpAny _ _ (call (Value.builtin "list.__getattribute__") _ _) _ _ _);refine call_meets F.slot_list_getattribute (hT _) am_entry_list_getattribute (F.args_list_getattribute_2 _ _) (meets_getattribute_miss_list a xs k sl "keys" _ ak (by decide) (by decide)) ⟨hx,hA,fun h' tk' e hx' => ?_⟩) | wp_step))
  obtain⟨t',u',he⟩:=hx'.there
  show wpAny _ _ (getattributeRaised _ _ _ _ _ _ _) _ _ _
  unfold getattributeRaised
  repeat (any_goals (first | assumption | wp_step))
  exact h _ _ hx'.keeps
section
variable{prog:Program}{w:World}{K:Type}[DecidableEq K]{knd:KeyKind prog w K}
def accH(ps:List (List K×Addr×Value))(i:Nat):List (List K×Addr×Value):=(ps.take i).foldl (fun xs p=>storedH xs p.1 p.2.1 p.2.2) []
theorem zeg{G:List K->Addr->Prop}{xs:List (List K×Addr×Value)}{k:List K}{b:Addr}{v:Value}(h:∀x∈xs,G x.1 x.2.1)(hk:G k b):∀x∈storedH xs k b v,G x.1 x.2.1:=by
  unfold storedH
  split
  . intro x hx
    obtain⟨y,hy,rfl⟩:=Zp.mp hx;unfold putAt
    split
    . exact h y hy
    . exact h y hy
  . intro x hx
    rcases ZH.mp hx with hx | hx
    . exact h x hx
    . rw[ZC.mp hx];exact hk
theorem iu{ps:List (List K×Addr×Value)}{i:Nat}{p:List K×Addr×Value}(h:ps[i]? = some p):accH ps (i+1)=storedH (accH ps i) p.1 p.2.1 p.2.2:=by
  unfold accH;rw[Zq,h];simp
theorem zei(xs:List (List K×Addr×Value))(k:List K)(b:Addr)(v:Value):(storedH xs k b v).length<=xs.length+1:=by
  unfold storedH
  split
  . rw[Za];omega
  . rw[Zo];simp
theorem zdp(ps:List (List K×Addr×Value)):∀i,i<=ps.length->(accH ps i).length<=i
  | 0,_=>Zm _
  | i+1,h=>by
    have e:ps[i]? = some ps[i]:=Zb h;rw[iu e];exact Zd (zei _ _ _ _) (YB (zdp ps i (by omega)))
structure zak(knd:KeyKind prog w K)(h:Heap)(items:Array Value)(ps:List (List K×Addr×Value)):Prop where
  len:items.size=ps.length
  at':∀(i:Nat) (p:List K×Addr×Value),ps[i]? = some p->∃T,items[i]? = some (.ref T)/\h.IsTuple T #[.ref p.2.1,p.2.2]/\(tupleKind knd).is h p.1 p.2.1
theorem isK{h h':Heap}{ks:List K}{a:Addr}(q:(tupleKind knd).is h ks a)(k:∀o,h.get? a=some o->h'.get? a=some o):(tupleKind knd).is h' ks a:=by
  obtain⟨o,its,n,e,r⟩:=q;exact⟨o,its,n,k o e,r⟩
theorem j3{h h':Heap}{d:Addr}{xs:List (List K×Addr×Value)}(q:h.DictOfH (tupleKind knd) d xs)(hd:∀o,h.get? d=some o->h'.get? d=some o)(hx:∀x∈xs,(tupleKind knd).is h' x.1 x.2.1):h'.DictOfH (tupleKind knd) d xs:=by
  obtain⟨o,es,ep,ho,hc,hdat,he,_,hn⟩:=q;exact⟨o,es,ep,hd o ho,hc,hdat,he,hx,hn⟩
theorem zio{A:Around}{hB:Heap}{g:Array GenState}{dr:Drawn}{os:OsState}{d it l:Addr}{items:Array Value}{ps:List (List K×Addr×Value)}{R:Result->Shared->Prop}(hA:A.handled=none)(hu:(tupleKind knd).room A.in1)(hl:hB.IsList l items)(hP:zak knd hB items ps)(hd:hB.objs.size<=d)(hi:hB.objs.size<=it)(hdi:d≠it)(hz:ps.length<=sizeLine)
    (hR:∀h' tk,(∀c o,hB.get? c=some o->h'.get? c=some o)->h'.DictOfH (tupleKind knd) d (accH ps ps.length)->R (.ok (.ret .none)) ⟨h',g,dr,tk,os⟩) :
    ∀(k i:Nat) (h:Heap) (tk:Nat),ps.length-i=k->i<=ps.length->(∀c o,hB.get? c=some o->h.get? c=some o)->h.IsListIter it l i->h.DictOfH (tupleKind knd) d (accH ps i)->(∀x∈accH ps i,(tupleKind knd).is hB x.1 x.2.1) ->
      codeAny (model prog w) A (.builtin "dict.update.loop" ⟨[.ref d,.ref it,rawInt i,.none],[]⟩) R ⟨h,g,dr,tk,os⟩:=by
  have ltB:∀{c o},hB.get? c=some o->c<hB.objs.size:=fun e=>Heap.lt_size e
  intro k
  induction k with
  | zero =>
    intro i h tk hk hi' kp hit hD hG;have e:i=ps.length:=by omega
    subst e;refine codeAny_builtin zba ?_;rw[Around.under_plainId kd _];have hl':h.IsList l items:=hl.at fun o e=>kp _ o e
    show wpAny _ A.in1 (pyNext (.ref it) >>= _) _ _ _
    refine wpAny_bind (wpAny_pyNext_list_end (s:=⟨h,g,dr,tk,os⟩) hA hit hl' (by rw[Array.getElem?_eq_none];rw[hP.len];exact Zm _) fun h' ext => ?_)
    replace ext:Heap.ExtBut it h h':=ext
    have kp':∀c o,hB.get? c=some o->h'.get? c=some o:=fun c o e=>ext c o (Zs (Zh (ltB e) hi)) (kp c o e)
    show wpAny _ _ (Builtin.Dict.addKeywords d [] >>= _) _ _ _
    exact wpAny_bind (wpAny_pure (wpAny_pure (hR h' tk kp' (j3 hD (fun o e=>ext d o hdi e) fun x hx=>isK (hG x hx) fun o e=>kp' _ o e))))
  | succ k ih =>
    intro i h tk hk hi' kp hit hD hG;have hlt:i<ps.length:=by omega
    have ep:ps[i]? = some ps[i]:=Zb hlt;obtain⟨T,eT,hT,hK⟩:=hP.at' i _ ep;refine codeAny_builtin zba ?_;rw[Around.under_plainId kd _];have hl':h.IsList l items:=hl.at fun o e=>kp _ o e
    show wpAny _ A.in1 (pyNext (.ref it) >>= _) _ _ _
    refine wpAny_bind (wpAny_pyNext_list_item (s:=⟨h,g,dr,tk,os⟩) hit hl' eT fun h1 hit1 sb => ?_)
    replace sb:Heap.SameBut it h h1:=sb
    have kp1:∀c o,hB.get? c=some o->h1.get? c=some o:=fun c o e=>sb.extBut c o (Zs (Zh (ltB e) hi)) (kp c o e)
    have hD1:h1.DictOfH (tupleKind knd) d (accH ps i):=j3 hD (fun o e=>sb.extBut d o hdi e) fun x hx=>isK (hG x hx) fun o e=>kp1 _ o e
    obtain⟨oT,eoT,cT,nT,dT⟩:=hT;have hTs:(⟨h1,g,dr,tk,os⟩:Shared).TypeIs (.ref T) "tuple" := ⟨oT,kp1 _ _ eoT,cT⟩
    show wpAny _ A.in1 (holding [Value.ref T] _ >>= _) _ _ _
    refine wpAny_bind (wpAny_holding ?_);refine wpAny_bind (wpAny_tryCatch ?_);unfold Builtin.Dict.pairItems;refine wpAny_bind (wpAny_typeOf hTs ?_);rw[if_pos (by decide)];refine wpAny_bind (wpAny_seqItems (s:=⟨h1,g,dr,tk,os⟩) (kp1 _ _ eoT) dT ?_);refine wpAny_pure ?_
    show wpAny _ A.in1 (holding [Value.ref ps[i].2.1,ps[i].2.2] (dictSet d (Value.ref ps[i].2.1) ps[i].2.2)) _ _ _
    refine wpAny_holding ?_;refine wpAny_dictSet_heap (s:=⟨h1,g,dr,tk,os⟩) hu (isK hK fun o e=>kp1 _ o e) hD1 (fun h2 hD2 sb2 => ?_) (Zd (zdp ps i hi') (by omega))
    replace sb2:Heap.SameBut d h1 h2:=sb2
    have kp2:∀c o,hB.get? c=some o->h2.get? c=some o:=fun c o e=>sb2.extBut c o (Zs (Zh (ltB e) hd)) (kp1 c o e)
    rw[<-iu ep]at hD2;refine wpAny_pure ⟨plainId_quiet kd _,?_⟩
    have:=ih (i+1) h2 (tk+(tupleKind knd).draws ps[i].1) (by omega) hlt kp2 (hit1.extBut sb2.extBut (Ne.symm hdi)) hD2 (by
      rw[iu ep]
      exact zeg (G:=fun k b=>(tupleKind knd).is hB k b) hG hK)
    exact this
theorem bx {A:Around} {E:Value->Shared->Prop} {s:Shared} {l:Addr} {o:Obj} {items:Array Value} {n:Nat} {ps:List (List K×Addr×Value)} {Q:Value->Shared->Prop} (hA:A.handled=none) (hu:A.units+8<cLine) (ho:s.heap.get? l=some o) (hc:o.cls=.type "list") (hdat:o.data=.seq items n) (hdn:o.dict=none) (hP:zak knd s.heap items ps) (hz:ps.length<=sizeLine)
    (h:∀h' tk,(∀c o,s.heap.get? c=some o->h'.get? c=some o)->h'.DictOfH (tupleKind knd) s.heap.objs.size (accH ps ps.length)->Q (.ref s.heap.objs.size) { s with heap:=h',toks:=tk }) :
    wpAny (model prog w) A (call (.type "dict") [.ref l]) Q E s:=by
  refine callType_codes (Q₁:=fun obj s₁=>obj=.ref s.heap.objs.size/\s₁={ s with heap:=s.heap.push { cls:=.type "dict", data:=.dict #[] } }) F.kt_called_dict (F.kt_typeCall_dict_1 _) F.entry_dict_init (kt_code_dict_new _ ⟨rfl,rfl⟩) ?_
  rintro obj s₁ ⟨rfl,rfl⟩
  have hnew:(s.heap.push { cls:=.type "dict", data:=.dict #[] }).DictOfH (tupleKind knd) s.heap.objs.size []:=Heap.DictOfH.new s.heap;have ho':(s.heap.push { cls:=.type "dict", data:=.dict #[] }).get? l=some o:=Heap.get?_push_of_some _ ho;refine⟨⟨_,Heap.get?_push_size _ rfl,rfl⟩,F.args_dict_init_2 _ _,?_⟩;unfold Builtin.«dict.__init__»;refine wpAny_bind ?_;unfold Builtin.Dict.selfAndRest;refine wpAny_bind (wpAny_notOrdered_dict ⟨_,Heap.get?_push_size _ rfl,rfl⟩ ?_)
  show wpAny _ _ (pure (s.heap.objs.size,[Value.ref l])) _ _ _
  refine wpAny_pure ?_
  show wpAny _ _ (Builtin.Dict.updateFrom "dict.__init__" s.heap.objs.size (.ref l) [] .none) _ _ _
  unfold Builtin.Dict.updateFrom;refine wpAny_bind (wpAny_typeOf ⟨_,ho',hc⟩ ?_);rw[if_pos (by decide)];refine wpAny_bind (i8 ho' hc hdat hdn hA fun h1 tk1 k1 => ?_);rw[if_pos (by decide)];refine wpAny_bind (wpAny_rule ?_);have hl1:h1.IsList l items:=⟨o,k1 _ _ ho',hc,n,hdat⟩;have hd1:h1.get? s.heap.objs.size=some { cls:=.type "dict", data:=.dict #[] }:=k1 _ _ (Heap.get?_push_size _ rfl);have hlt:s.heap.objs.size<h1.objs.size:=Heap.lt_size hd1;refine wpAny_bind (wpAny_pyIter_list (s:=⟨h1,s.gens,s.drawn,tk1,s.os⟩) hl1 (wpAny_pure ⟨plainId_quiet kd _,?_⟩));have kp:∀c o,s.heap.get? c=some o->(h1.push { cls:=.type "list_iterator", data:=.fields #[.ref l,.int 0 0] }).get? c=some o:=fun c o e=>Heap.get?_push_of_some _ (k1 _ _ (Heap.get?_push_of_some _ e))
  refine zio (knd:=knd) (A:=A.in1) (hB:=s.heap) (g:=s.gens) (dr:=s.drawn) (os:=s.os) (l:=l) (items:=items) (ps:=ps) hA (tupleKind_room_in1 (A:=A.in1) (by show A.units+1+1<cLine;omega)) ⟨o,ho,hc,n,hdat⟩ hP (Zm _) (YW hlt) (Zs hlt) hz
    (fun h' tk kp' hD=>⟨rfl,h h' tk kp' hD⟩) ps.length 0 _ tk1 (by omega) (ZE _) kp ⟨_,Heap.get?_push_size _ rfl,rfl,rfl⟩ (j3 hnew (fun o e=>Heap.get?_push_of_some _ (k1 _ _ e)) fun x hx=>by cases hx) (fun x hx=>by cases hx)
end
end L2
namespace L2
open PySem PySem.Spec PyProof.Rows
def my(kvs:List (List Key×V)):List (List Key×V):=kvs.foldl (fun acc kv=>putK acc kv.1 kv.2) []
structure uz(H:Hp)(Ts:List Addr)(kvs:List (List Key×V)):Prop where
  len:Ts.length=kvs.length
  at':∀(i:Nat) (T:Addr) (kv:List Key×V),Ts[i]? = some T->kvs[i]? = some kv->∃b,H T=some (.tup [.ref b,kv.2])/\H b=some (.tup (kv.1.map kV))
def zgy(xs:List V)(H:Hp)(Q:VK):Prop:=∃(l:Addr) (Ts:List Addr) (kvs:List (List Key×V)),xs=[.ref l]/\H l=some (.lst (Ts.map V.ref))/\uz H Ts kvs/\∀p,H p=none->Q (.ref p) (upd H p (.dT (my kvs)))
theorem zkr{xs:List V}{H:Hp}{Q:VK}:zgy xs H Q=∃(l:Addr) (Ts:List Addr) (kvs:List (List Key×V)),xs=[.ref l]/\H l=some (.lst (Ts.map V.ref))/\uz H Ts kvs/\∀p,H p=none->Q (.ref p) (upd H p (.dT (my kvs))):=rfl
section
variable{X:Cx}{pins:List (Addr×Obj)}{σ:St}{H:Hp}{s:Shared}
theorem zcn(I:Inv X pins σ H s):∀{Ts:List Addr} {kvs:List (List Key×V)} {us:List Value},uz H Ts kvs->Vals (Ts.map V.ref) us->∃ps:List (List Key×Addr×Value),zak (wk X.prog X.w) s.heap us.toArray ps/\KT H kvs ps
  | [],[],us,q,r=>by
    cases r;exact⟨[],⟨rfl,fun i p e=>by simp at e⟩,.nil⟩
  | T::Ts,kv::kvs,us,q,r=>by
    rw[ZM]at r
    cases r with
    | @cons _ u _ us r0 r1 =>
      obtain⟨ps,P,k⟩:=zcn I (Ts:=Ts) (kvs:=kvs) ⟨by simpa using q.len,fun i T kv e1 e2=>q.at' (i+1) T kv (by simpa using e1) (by simpa using e2)⟩ r1;obtain⟨b,hT,hb⟩:=q.at' 0 T kv rfl rfl;obtain⟨z,its,rr,hI⟩:=(show ObjOk X.prog X.w H s.heap T (.tup [.ref b,kv.2]) from I.hok T _ hT);obtain⟨u1,u2,rfl,ru1,ru2⟩:=Vals.two rr;obtain rfl:u1=Value.ref b:=ru1;obtain rfl:u=Value.ref T:=r0;refine⟨(kv.1,b,u2)::ps,⟨by simp[<-P.len],fun i p e => ?_⟩,.cons ⟨rfl,hb,ru2⟩ k⟩
      cases i with
      | zero =>
        simp at e;subst e;obtain⟨o,e1,c1,n1,d1,_⟩:=hI;exact⟨T,by simp,⟨o,e1,c1,n1,d1⟩,ag I.hok hb⟩
      | succ i =>
        obtain⟨T',a1,a2,a3⟩:=P.at' i p (by simpa using e);exact⟨T',by simpa using a1,a2,a3⟩
  | [],kv::kvs,us,q,r=>by simpa using q.len
  | T::Ts,[],us,q,r=>by simpa using q.len
theorem kt_acc{kvs:List (List Key×V)}{ps:List (List Key×Addr×Value)}(k:KT H kvs ps):KT H (my kvs) (accH ps ps.length):=by
  have go:∀(l:List (List Key×V)) (m:List (List Key×Addr×Value)) (a:List (List Key×V)) (b:List (List Key×Addr×Value)),KT H l m->KT H a b->KT H (l.foldl (fun acc kv=>putK acc kv.1 kv.2) a) (m.foldl (fun xs p=>storedH xs p.1 p.2.1 p.2.2) b):=by
    intro l m a b q
    induction q generalizing a b with
    | nil=>intro z;exact z
    | @cons p q ps qs h t ih =>
      intro z;obtain⟨h1,h2,h3⟩:=h;refine ih _ _ ?_
      show KT H (putK a p.1 p.2) (storedH b q.1 q.2.1 q.2.2)
      rw[<-h1];exact z.put p.1 h2 h3
  unfold accH;rw[Zt];exact go _ _ _ _ k .nil
theorem zgk(kvs:List (List Key×V)):(my kvs).length<=kvs.length:=by
  have go:∀(l a:List (List Key×V)),(l.foldl (fun acc kv=>putK acc kv.1 kv.2) a).length<=a.length+l.length:=by
    intro l
    induction l with
    | nil=>intro a;exact Zm _
    | cons p l ih =>
      intro a;have h1:=ih (putK a p.1 p.2);have h2:=zed a p.1 p.2;simp only[Xb,ZL];omega
  have:=go kvs []
  simpa[my] using this
theorem zaq{kvs:List (List Key×V)}(h:(kvs.map (·.1)).Nodup):my kvs=kvs:=by
  have go:∀(l a:List (List Key×V)),((a++l).map (·.1)).Nodup->l.foldl (fun acc kv=>putK acc kv.1 kv.2) a=a++l:=by
    intro l
    induction l with
    | nil=>intro a _;simp
    | cons p l ih =>
      intro a hn
      have hno:valV a p.1=none:=by
        cases e:valV a p.1 with
        | none=>rfl
        | some v =>
          exfalso
          have hm:=zk3 e;rw[Zn,List.nodup_append]at hn;exact hn.2.2 _ hm _ (by simp) rfl
      rw[Xb,zkb _ hno,ih _ (by simpa using hn)];simp
  exact go kvs [] (by simpa using h)
theorem af(hc:X.calm=true)(hu:X.A.units+8<cLine):w9 X (.type "dict") zgy:=by
  intro pins s σ H xs us Q I r h;obtain⟨l,Ts,kvs,rfl,hl,hP,q⟩:=h;obtain⟨u,rfl,ru⟩:=qt r;obtain rfl:u=Value.ref l:=ru;obtain⟨its,rv,pl,hz⟩:=I.list (SqL.of hl);obtain⟨ps,P,k⟩:=zcn I hP rv;obtain⟨o,n,e,c,d,dat⟩:=id pl;have hps:ps.length=kvs.length:=(Paired.length k).symm;have hkl:kvs.length<=sizeLine:=by rw[Za,hP.len]at hz;exact hz
  refine bx (knd:=wk X.prog X.w) (I.ok.hd hc) hu e c dat d P (by omega) fun h' tk kp hD => ?_
  have hn:H s.heap.objs.size=none:=I.hok.fresh (Zm _);refine⟨.ref s.heap.objs.size,upd H s.heap.objs.size (.dT (my kvs)),I.laid (t':=tk) (fun b u e=>kp b u e) (Zm _) ?_,rfl,q _ hn⟩;obtain⟨ob,es,ep,g1,g2,g3,g4,_,g6⟩:=hD;have hb:=I.big;refine⟨Zd (zgk kvs) hkl,?_,accH ps ps.length,(kt_acc k).keeps fun b ys e => ?_,ob,es,ep,g1,g2,g3,g4,g6⟩
  . exact beq_eq_false_iff_ne.mpr (Yb hb)
  . rw[z8 (fun z=>by rw[z,hn]at e;cases e)]
    exact e
end
end L2
namespace L2
open PySem
theorem hu11{A:Around}{k:Nat}(hr:Room k A):A.units+8<cLine:=by have:=hu9 hr;omega
end L2
namespace L2
open PySem PySem.Spec PyProof.Rows
section
variable{X:Cx}{pins:List (Addr×Obj)}{σ:St}{H:Hp}{k:Nat}{f:Addr}{fd:FuncData}{ps:List Str}{sp:Sp}
end
end L2
namespace L2
open PySem PySem.Spec PyProof.Rows
section
variable{X:Cx}
end
end L2
namespace L2
open PySem PySem.Spec PyProof.Rows
section
variable{X:Cx}
def ze8(K:Fg):V->List V->Hp->VK->Prop:=fun x vs H Q=>∃p xs y,x=.ref p/\vs=[y]/\SqT K H p xs/\xk y=true/\xs.all xk=true/\Q (.int ((xs.countP fun z=>eqV z y:Nat):Int)) H
theorem zjy{K:Fg}{x:V}{vs:List V}{H:Hp}{Q:VK}:ze8 K x vs H Q=∃p xs y,x=.ref p/\vs=[y]/\SqT K H p xs/\xk y=true/\xs.all xk=true/\Q (.int ((xs.countP fun z=>eqV z y:Nat):Int)) H:=rfl
theorem za4{y:V}:∀{xs:List V} {us:List Value},Vals xs us->xs.all xk=true->us.countP (eqU y)=xs.countP fun z=>eqV z y
  | _,_,.nil,_=>rfl
  | _,_,.cons r rr,f=>by
    rw[YT,Bool.and_eq_true]at f;rw[List.countP_cons,List.countP_cons,za4 rr f.2,c8 r f.1]
theorem zib:MtR X "tuple.count" (ze8 X.K):=by
  intro pins s σ H x vs v us Q I rx rvs h;obtain⟨p,xs,y,rfl,rfl,hq,hF,hFs,q⟩:=h;cases rx;obtain⟨u,rfl,ru⟩:=qt rvs;obtain⟨its,r,pl,hz⟩:=I.tuple hq;obtain⟨⟨cls,dd,data,sl⟩,ho,hc,n,hd⟩:=id pl;simp only at hc hd;subst hc hd;refine call_meets PySem.F.slot_tuple_count ⟨_,ho,rfl⟩ PySem.F.entry_tuple_count (PySem.F.args_tuple_count_2 _ _) (SeqAt.tuple_countAt p its.toArray n dd sl u (eqU y)) ⟨ho,fun w hw=>qw ru hF r hFs w (by simpa using hw),⟨.int _,H,I.tok _,⟨_,rfl⟩,?_⟩⟩
  have e:its.toArray.toList.countP (eqU y)=xs.countP fun z=>eqV z y:=by
    rw[List.toList_toArray];exact za4 r hFs
  rw[e];exact q
end
end L2
namespace L2
open PySem PySem.Spec PyProof.Rows
section
variable{X:Cx}{pins:List (Addr×Obj)}{σ:St}{H2:Hp}{s₂:Shared}{scope:Scope}{ts N2:List Str}{cl:List (Str×Addr)}{C D:Addr}{fp:List Addr}
end
end L2
namespace L2
open PySem PySem.Spec PyProof.Rows
end L2
namespace L2
open PySem PySem.Spec PyProof.Rows
section
variable{X:Cx}
end
end L2
namespace L2
open PySem PySem.Spec PyProof.Rows
section
variable{M:Model}{A:Around}{E:Value->Shared->Prop}{s:Shared}
theorem cg{x:Value}{e1 e2:Env}(h:e1.frame=e2.frame):noteFrame x e1=noteFrame x e2:=by unfold noteFrame PySem.frameOf;rw[h]
theorem am{base:Heap}{l:List Env}{e:Addr}{cls a0 fl:Value}(fr:Option Addr){Q:Unit->Shared->Prop}
    (hkb:base.StaysIn s.heap) (hl:s.heap.FunFrames base l) (ht:s.heap.TracedAtW base e cls a0 fl)
    (h:∀h',base.StaysIn h'->h'.FunFrames base l->h'.TracedAtW base e cls a0 (fr.elim Value.none fun f=>rawInt f)->(∀b o,s.heap.get? b=some o->(∀vs,o.data≠.fields vs)->h'.get? b=some o)->Q () { s with heap:=h' }) :
    wpAny M A (setFlight (.ref e) fr) Q E s:=by
  obtain⟨oe,vs,T,oT,ts,he,hcls,hd,h1,hnT,hTe,hT,hdT,h3⟩:=ht;have hsz3:3<ts.size:=(ZW.mp h3).1
  have other:∀b,b≠T->(s.heap.update T (Obj.mapFields (·.setIfInBounds 3 (fr.elim Value.none fun f=>rawInt f)))).get? b=s.heap.get? b :=
    fun b hb=>Heap.get?_update_other _ _ (Ne.symm hb)
  have noRecord:∀b o,s.heap.get? b=some o->(∀vs,o.data≠.fields vs)->b≠T:=fun b o hb hnf q=>by
    rw[q,hT]at hb;injection hb with hb;subst hb;exact hnf ts hdT
  unfold setFlight;refine wpAny_bind (wpAny_field he hd h1 ?_);rw[if_pos (show(Value.ref T != Value.none)=true from by simp)]
  refine wpAny_setField hT hdT hsz3 (h _ (fun b o hbo=>(other b fun q=>by rw[q,hnT]at hbo;cases hbo).trans (hkb b o hbo))
    (hl.of_keeps fun b o hb hnf=>⟨o,(other b (noRecord b o hb hnf)).trans hb,rfl⟩) ?_ fun b o hb hnf=>(other b (noRecord b o hb hnf)).trans hb)
  exact⟨oe,vs,T,_,_,(other e (Ne.symm hTe)).trans he,hcls,hd,h1,hnT,hTe,Heap.get?_update_self _ hT (Obj.isFreed_of_fields (Obj.data_mapFields hdT _)),Obj.data_mapFields hdT _,by simp[hsz3]⟩
theorem zdl{base:Heap}{env:Env}{outer:List Env}{L e:Addr}{cls a0 fl:Value}{Q:Unit->Shared->Prop}
    (hfr:A.frames=some (env::outer)) (hf:env.frame=some L) (hkb:base.StaysIn s.heap) (hen:base.get? e=none) (hl:s.heap.FunFrames base (env::outer)) (ht:s.heap.TracedAtW base e cls a0 fl)
    (hQ:∀h',Heap.FlyingW base outer e cls a0 h'->s.heap.UpToSlots h'->Q () { s with heap:=h' }):wpAny M A (leaving env (.ref e)) Q E s:=by
  by_cases hfl:fl=rawInt L
  . subst hfl
    unfold leaving;refine wpAny_bind (wpAny_noteFrame_againW hf ht ?_);refine wpAny_landsW (l:=env::outer) ⟨hkb,hen,hl,ht⟩ fun h' hfl ups => ?_
    obtain⟨k1,k2,⟨_,_,k3⟩,k4⟩:=hfl;exact hQ h' ⟨k1,k2,k3,k4⟩ ups
  . obtain⟨oe,vs,T,oT,ts,he,⟨hcls,h0⟩,hd,h1,hnT,hTe,hT,hdT,h3⟩:=ht
    subst hcls;unfold leaving noteFrame;simp only[hf];refine wpAny_bind (wpAny_bind (wpAny_field he hd h1 ?_));rw[if_pos (show(Value.ref T != Value.none)=true from by simp)];refine wpAny_bind (wpAny_field hT hdT h3 ?_);rw[if_neg (show ¬((fl==rawInt L)=true) from fun z=>hfl (eq_of_beq z))];refine wpAny_bind (wpAny_setField hT hdT (ZW.mp h3).1 ?_);have other:∀b,b≠T->(s.heap.update T (Obj.mapFields (·.setIfInBounds 3 Value.none))).get? b=s.heap.get? b:=fun b hb=>Heap.get?_update_other _ _ (Ne.symm hb)
    have noRecord:∀b o,s.heap.get? b=some o->(∀vs,o.data≠.fields vs)->b≠T:=fun b o hb hnf q=>by
      rw[q,hT]at hb;injection hb with hb;subst hb;exact hnf ts hdT
    refine wpAny_newEntryW hfr (hl.of_keeps fun b o hb hnf=>⟨o,(other b (noRecord b o hb hnf)).trans hb,rfl⟩) hf ((other e (Ne.symm hTe)).trans he)
      (fun b o hbo=>(other b fun q=>by rw[q,hnT]at hbo;cases hbo).trans (hkb b o hbo)) hen hd (ZW.mp h1).1 h0
      fun h' ⟨x1,⟨_,_,x2⟩,x3,x4⟩=>hQ h' ⟨x1,hen,x2,x3⟩ fun b o hb hnf=>x4 b o ((other b (noRecord b o hb hnf)).trans hb) hnf
end
theorem ij{B h h':Heap}{C:Addr}{oC:Obj}(hB:B.get? C=some oC)(sb:Heap.SameBut C h h'):∀{l:List Env},h.FunFrames B l->h'.FunFrames B l
  | [],_=>trivial
  | _::_,⟨hk,⟨L,o,hf,hn,ho,hd⟩,hr⟩=>⟨hk,⟨L,o,hf,hn,(sb.2 L (fun z=>by rw[z,hB]at hn;cases hn)).trans ho,hd⟩,ij hB sb hr⟩
theorem zhl{fs:List Addr}{H0 H1:Hp}{h0 h1 h2 B:Heap}(u:Un fs [] H0 H1 h0 h1)(dom2:∀b o,h0.get? b=some o->b∉fs->∃ob,B.get? b=some ob/\(H0 b=none->ob=o))
    (bh':B.StaysIn h2) (sl:∀b∈fs,∀o,h1.get? b=some o->(∀vs,o.data≠.fields vs)->∃sl,h2.get? b=some { o with slots:=sl }) (hfr:∀b∈fs,∀o,h1.get? b=some o->∀vs,o.data≠.fields vs):Un fs [] H0 H1 h0 h2 where
  keep:=fun b o e n hb _=>by
    obtain⟨ob,e1,e2⟩:=dom2 b o e hb;rw[e2 n]at e1;exact bh' b o e1
  slot:=fun b o e n hb hx=>by
    obtain⟨s1,e1⟩:=u.slot b o e n hb hx;obtain⟨s2,e2⟩:=sl b hb _ e1 (hfr b hb _ e1);exact⟨s2,e2⟩
  free:=u.free
  there:=fun b o e hx=>by
    by_cases hb:b∈fs
    . obtain⟨o1,e1⟩:=u.there b o e hx
      obtain⟨s2,e2⟩:=sl b hb _ e1 (hfr b hb _ e1);exact⟨_,e2⟩
    . obtain⟨ob,e1,_⟩:=dom2 b o e hb
      exact⟨ob,bh' b ob e1⟩
  tups:=u.tups
  frzs:=u.frzs
  tbls:=u.tbls
section
variable{X:Cx}{pins:List (Addr×Obj)}{σ:St}{H:Hp}{s:Shared}
theorem stk_lt(I:Inv X pins σ H s){b:Addr}(hb:b∈frs X.stack):b<s.heap.objs.size:=by
  obtain⟨_,o,e,_⟩:=I.stack.mem hb;exact Heap.lt_size e
theorem passC{P:Program}{w:World}{K:Fg}{mg:Str->Option Value}{base:Heap}{NN:List Str}{qual:Str}{scp:Scope}{f:Addr}{cd:Value}{A:Around}{outer:List Env}{s0:Shared}{H0:Hp}{E:XK}{use:Option (Value->Sem Unit)}{Q:Value->Shared->Prop}{acc:Value}{scope:Scope}{cl:List (Str×Addr)}{C:Addr}{m:Str->Option Value}{e:Value}{s':Shared}
    (hX:X=cxOf (CX1 P w) P w K mg base NN qual scp f cd A outer s0 H0 E) (I:Inv X pins σ H s) (hn:s.heap.Ns C m) (hf:H C=none) (hC:X.s₀.heap.objs.size<=C) (hL:C≠X.env.locals) (hS:∀b∈frs X.stack,b≠C)
    (h:CX1 X.prog X.w X.stack H s (fun c _ H'=>E c none H') e s') :
    notedBy (model X.prog X.w) X.A (compEnvC scope cl C X.env) (fun x s1=>compPost (model X.prog X.w) X.A X.xe use Q acc C (.error x) s1) e s':=by
  subst hX;obtain⟨ea,Ce,a0,B,H',rfl,os,bare,un,hok,fl,hea,dom,dom2,hE1⟩:=h;obtain⟨oC,esC,epC,hoC,rC⟩:=hn;obtain⟨ob,hBC,hob⟩:=dom2 C oC hoC (fun z=>hS C z rfl);rw[hob hf]at hBC;unfold notedBy;rw[cg (e1:=compEnvC scope cl C (cxOf (CX1 P w) P w K mg base NN qual scp f cd A outer s0 H0 E).env) (e2:=envOfC qual scp s0.heap.objs.size f cd) rfl];refine wpAny_looks_onW I.ok.frames rfl fl fun h1 held ups => ?_
  obtain⟨g1,g2,g3,g4⟩:=held
  have hk:∃m,h1.Ns C m/\∀h',Heap.SameBut C h1 h'->∀cenv:Env,cenv.locals=C->wpAny (model P w) (A.deeper (envOfC qual scp s0.heap.objs.size f cd)) (PySem.passOn "comprehension.variables-let-go" (.ref ea) cenv:Sem Value) (fun _ _=>False) (cxOf (CX1 P w) P w K mg base NN qual scp f cd A outer s0 H0 E).xe { s' with heap:=h' }:=by
    refine⟨m,⟨oC,esC,epC,g1 C oC hBC,rC⟩,fun h' sb cenv _ => ?_⟩;have kB:(PySem.W.hideAll B [C]).StaysIn B:=fun b o q=>PySem.W.of_hideAll _ q
    have neB:∀b o,(PySem.W.hideAll B [C]).get? b=some o->b≠C:=fun b o q z=>by
      rw[z,PySem.W.hideAll_none [C] (by simp)]at q;cases q
    have inB:∀b o,B.get? b=some o->b≠C->(PySem.W.hideAll B [C]).get? b=some o:=fun b o q n=>PySem.W.hideAll_get [C] q (by simpa using n)
    have st':(PySem.W.hideAll B [C]).StaysIn h':=fun b o q=>(sb.2 b (neB b o q)).trans (g1 b o (kB b o q))
    have ff':h'.FunFrames (PySem.W.hideAll B [C]) (envOfC qual scp s0.heap.objs.size f cd::outer):=PySem.W.funFrames_base kB (ij hBC sb g3);have he':(PySem.W.hideAll B [C]).get? ea=none:=PySem.W.fresh_of_stays kB g2
    have tr':h'.TracedAtW (PySem.W.hideAll B [C]) ea (.ref Ce) a0 (rawInt s0.heap.objs.size):=by
      obtain⟨oe,vs,T,oT,ts,a1,a2,a3,a4,a5,a6,a7,a8,a9⟩:=g4;exact⟨oe,vs,T,oT,ts,(sb.2 ea (fun z=>by rw[z,hBC]at g2;cases g2)).trans a1,a2,a3,a4,PySem.W.fresh_of_stays kB a5,a6,(sb.2 T (fun z=>by rw[z,hBC]at a5;cases a5)).trans a7,a8,a9⟩
    unfold PySem.passOn;have tr2:=tr';obtain⟨oe,vs,T,oT,ts,a1,a2,a3,a4,a5,a6,a7,a8,a9⟩:=tr2;refine wpAny_bind (wpAny_field (s:={ s' with heap:=h' }) a1 a3 a4 ?_);rw[if_neg (show ¬((Value.ref T==Value.none)=true) from by simp)];refine wpAny_bind (am (s:={ s' with heap:=h' }) (l:=envOfC qual scp s0.heap.objs.size f cd::outer) cenv.frame st' ff' tr' fun h2 b1 b2 b3 b4 => ?_);refine wpAny_throw ?_
    show wpAny _ _ (leaving _ (.ref ea)) _ _ _
    refine zdl (s:={ s' with heap:=h2 }) I.ok.frames rfl b1 he' b2 b3 fun h3 x1 x2 => ?_
    have hst:s'.heap.FunFrames B (envOfC qual scp s0.heap.objs.size f cd::outer):=fl.2.2.1;have un0:Un (frs outer) [] H0 H s0.heap s.heap:=I.base
    have sub:∀b∈frs outer,b∈frs (envOfC qual scp s0.heap.objs.size f cd::outer):=fun b hb=>by
      obtain⟨env,he,hf⟩:=ZU.mp hb;exact ZU.mpr ⟨env,Zv _ he,hf⟩
    have notL:∀b o,s0.heap.get? b=some o->b∉frs outer->b∉frs (envOfC qual scp s0.heap.objs.size f cd::outer):=fun b o q n z=>by
      rcases ZK.mp (I.stkSub b z) with y | y
      . have h1:s0.heap.objs.size<=b:=by rw[y];exact I.ok.above
        exact absurd (Zh (Heap.lt_size q) h1) (ZJ _)
      . exact n y
    have ut:=(un0.mono sub (fun _ z=>z)).trans un;have un1:Un (frs outer) [] H0 H' s0.heap s'.heap:=⟨fun b o e n hb hx=>ut.keep b o e n (notL b o e hb) hx,fun b o e n hb hx=>ut.slot b o e n (sub b hb) hx,ut.free,ut.there,ut.tups,ut.frzs,ut.tbls⟩;have hf':H' C=none:=un.free C oC hoC hf (by simp)
    have dom':∀b o,H' b=some o->∃ob,(PySem.W.hideAll B [C]).get? b=some ob:=fun b o q=>by
      obtain⟨ob,e1⟩:=dom b o q;exact⟨ob,inB b ob e1 (fun z=>by rw[z,hf']at q;cases q)⟩
    have dom2':∀b o,s0.heap.get? b=some o->b∉frs outer->∃ob,(PySem.W.hideAll B [C]).get? b=some ob/\(H0 b=none->ob=o):=fun b o q n=>by
      obtain⟨o1,e1⟩:=un0.there b o q (by simp);obtain⟨ob,k1,k2⟩:=dom2 b o1 e1 (notL b o q n);refine⟨ob,inB b ob k1 (fun z => ?_),fun z => ?_⟩
      . have h1:s0.heap.objs.size<=b:=by rw[z];exact hC
        exact absurd (Zh (Heap.lt_size q) h1) (ZJ _)
      . have e2:=un0.keep b o q z n (by simp)
        rw[e1]at e2;cases e2;exact k2 (un0.free b _ q z (by simp))
    have hfr:∀b∈frs outer,∀o,s'.heap.get? b=some o->∀vs,o.data≠.fields vs:=fun b hb o q=>by
      obtain⟨_,o',e',n'⟩:=hst.mem (b:=b) (sub b hb);rw[q]at e';cases e';exact n'
    have sl:∀b∈frs outer,∀o,s'.heap.get? b=some o->(∀vs,o.data≠.fields vs)->∃sl,h3.get? b=some { o with slots:=sl }:=fun b hb o q n=>by
      obtain⟨s1,e1⟩:=ups b o q n;have e2:=(sb.2 b (hS b (sub b hb))).trans e1;have e3:=b4 b _ e2 n;obtain⟨s3,e4⟩:=x2 b _ e3 n;exact⟨s3,e4⟩
    exact⟨ea,Ce,a0,PySem.W.hideAll B [C],H',rfl,os.trans I.os,bare,zhl un1 dom2' x1.1 sl hfr,HOk.flown hok (fun b o q=>fl.1 b o (kB b o q)) x1.1 dom',x1,hea,dom',dom2',hE1⟩
  cases use <;> exact hk
end
theorem zco{prog:Program}{w:World}{A:Around}{R:Result->Shared->Prop}{s:Shared}{elt target iter:Expr}{ifs:List Expr}{scope:Scope}{pos:Pos}{it acc:Value}{env:Env}(I:Nat->Shared->Prop)
    (turn:∀n s,I n s->wpAny (model prog w) A (pyNext it) (fun r s₁=>match r with
      | none=>R (.ok .next) s₁
      | some v=>wpAny (model prog w) A (letOwnedTupleGo target it v) (fun _ s₁'=>wpAny (model prog w) A (assign target env v) (fun _ s₂ =>
          wpAny (model prog w) A (forIn ifs true fun c r=>if r=true then do let ok <-isTrue c env (eval c env);pure (ForInStep.yield ok) else pure (ForInStep.yield r)) (fun ok s₃ =>
            if ok=true then wpAny (model prog w) A (eval elt env) (fun x s₄ =>
              wpAny (model prog w) A (call (.builtin "list.append") [acc,x]) (fun _ s₅=>∃m,m<n/\I m s₅) (fun _ _=>False) s₄) (notedBy (model prog w) A env fun x s'=>R (.error x) s') s₃
            else ∃m,m<n/\I m s₃) (fun _ _=>False) s₂) (fun _ _=>False) s₁') (fun _ _=>False) s₁) (fun _ _=>False) s)
    (n:Nat) (h:I n s) :
    codeAny (model prog w) A (.compLoop (.ListComp elt [⟨target,iter,ifs,0⟩] scope pos) 0 it acc env) R s:=by
  refine codeAny_loop rfl I (fun n s hI => ?_) n h
  show wpAny _ A ((compTurn (.ListComp elt [⟨target,iter,ifs,0⟩] scope pos) 0 it acc env).onRaise (fun x=>do noteFrame x env;theTreesLotGoes x)) _ _ s
  refine wpAny_noted ?_;rw[compTurn_list];refine wpAny_bind (wpAny_standAt (wpAny_bind (wpAny_mono (turn n s hI) (fun r s₁ h₁ => ?_) fun _ _ f=>f.elim)))
  cases r with
  | none=>exact wpAny_pure h₁
  | some v =>
    refine wpAny_bind (wpAny_mono h₁ (fun _ s₁' h₁' => ?_) fun _ _ f=>f.elim);refine wpAny_bind (wpAny_mono h₁' (fun _ s₂ h₂=>wpAny_bind (wpAny_mono h₂ (fun ok s₃ h₃ => ?_) fun _ _ f=>f.elim)) fun _ _ f=>f.elim)
    cases ok with
    | false=>exact wpAny_pure ⟨rfl,h₃⟩
    | true =>
      exact wpAny_bind (wpAny_bind (wpAny_mono h₃ (fun x s₄ h₄=>wpAny_bind (wpAny_mono h₄ (fun _ s₅ h₅=>wpAny_pure (wpAny_pure ⟨rfl,h₅⟩)) fun _ _ f=>f.elim)) fun _ _ f=>f))
section
variable{X:Cx}{pins:List (Addr×Obj)}{σ:St}{H2:Hp}{s₂:Shared}{scope:Scope}{ts N2:List Str}{cl:List (Str×Addr)}{C D:Addr}{fp:List Addr}
theorem zj1(I2:Inv X pins σ H2 s₂)(f2:∀b∈fp,FpOk X pins H2 b){σ':St}{H':Hp}{s':Shared}{pl:List (Addr×Obj)}
    (J:Inv (yc X scope (ts++N2) ⟨cl,C,s₂,H2,fp⟩) pl σ' H' s'):Inv X pins σ H' s' :=
  I2.call' (ch:=fp) J.os J.base J.hok J.bare fun b hb=>by
    obtain⟨f0,f1,f3,f4,f5,f6⟩:=f2 b hb;exact⟨f4,f1,f5,f6⟩
theorem zea{Ex:Value->Hp->Prop}{E:Value->Shared->Prop}{tg elt iter:Expr}{ifs:List Expr}{pos:Pos}{it:Addr}{tn:Nat->Heap->Prop}{J:It}{g:Dyn->TG}{tt:Dyn->TT}{te:Dyn->TE}{RR:Value->Addr->Result->Shared->Prop}{Fin:List V->Hp->Prop}
    (I2:Inv X pins σ H2 s₂) (hc:X.calm=true) (T:Turn X.prog X.w X.K tg J fp it tn) (st:tn 0 s₂.heap) (f2:∀b∈fp,FpOk X pins H2 b) (hkind:scope.kind=.function) (hown:nw scope.names=true) (hfree:ox scope.names X.env=true) (hout:vv scope.names N2 X.N=true)
    (hcl1:∀x c,cl.lookup x=some c->X.env.cells.lookup x=some c) (hcl2:∀y∈scope.names,y.2=.free->∃c,cl.lookup y.1=some c)
    (hg:∀d,PG (yc X scope (ts++N2) d) tg (g d)) (ht:∀d,PTs (yc X scope (ts++N2) d) ifs (tt d)) (he:∀d pn,PE (jp (yc X scope (ts++N2) d) pn fun _ c H'=>Ex c H') elt (te d))
    (hW:∀d,ra J σ ts.length (g d) (tt d) (te d) H2 Fin)
    (hRR:∀D C s' H' ys,s₂.heap.objs.size<=C->C≠D->Inv X pins σ (upd H' D (.lst ys)) s'->H' D=none->H' C=none->(∃m,s'.heap.Ns C m)->ys.length<=sizeLine->Fin ys H'->RR (.ref D) C (.ok .next) s')
    (hRE:∀acc C H' s' e s'' m,s₂.heap.objs.size<=C->Inv X pins σ H' s'->s'.heap.Ns C m->H' C=none->CX1 X.prog X.w X.stack H' s' (fun c _ H''=>Ex c H'') e s''->notedBy (model X.prog X.w) X.A (compEnvC scope cl C X.env) (fun x s1=>RR acc C (.error x) s1) e s'') :
    wpAny (model X.prog X.w) X.A (newList []) (fun acc s₃=>wpAny (model X.prog X.w) X.A (newFunctionEnv scope X.env.globals cl [] X.env.qual none .none (some X.env)) (fun cenv s₄ =>
      codeAny (model X.prog X.w) X.A (.compStart (.ListComp elt [⟨tg,iter,ifs,0⟩] scope pos) 0 (.ref it) acc { cenv with scope:=relabel scope X.env }) (RR acc cenv.locals) s₄) E s₃) E s₂:=by
  refine wpAny_newObj_type (wpAny_newFunctionEnv (j5 hown) (by intro y hy;simp at hy) (fun h₁ hns₁ hsb₁ => ?_) hkind);dsimp only at hns₁ hsb₁ ⊢;generalize hH2:s₂.heap.push { cls:=.type "list", dict:=none,data:=.seq ([]:List Value).toArray }=HP at hns₁ hsb₁ ⊢;have hC:HP.objs.size=s₂.heap.objs.size+1:=by rw[<-hH2,Heap.size_push]
  have hDC:s₂.heap.objs.size≠HP.objs.size:=by rw[hC];exact Zs (Yr _)
  have hCle:s₂.heap.objs.size<=HP.objs.size:=by rw[hC];exact YN _
  have below:∀b,b<s₂.heap.objs.size->b≠HP.objs.size/\b≠s₂.heap.objs.size:=fun b hb=>⟨by rw[hC];exact Zs (YA hb),Zs hb⟩
  have old:∀b o,s₂.heap.get? b=some o->h₁.get? b=some o:=fun b o e=>hsb₁.extBut b o (below b (Heap.lt_size e)).1 (Heap.get?_push_of_some _ (hH2▸Heap.get?_push_of_some _ e))
  have hacc:h₁.get? s₂.heap.objs.size=some (lobj []):=hsb₁.extBut _ _ hDC (Heap.get?_push_of_some _ (hH2▸Heap.get?_push_size _ rfl))
  have flt:∀b∈fp,b<s₂.heap.objs.size:=fun b hb=>by
    obtain⟨o,e,_⟩:=T.obj _ _ st b hb;exact Heap.lt_size e
  generalize hDD:s₂.heap.objs.size=D at *;generalize hCC:HP.objs.size=C at *;have hDle:s₂.heap.objs.size<=D:=YY hDD;have I4:=fun(tk:Nat)=>cj (ts:=ts) (D:=D) (C:=C) (tk:=tk) I2 hc (fun b hb=>⟨f2 b hb,by rw[hDD];exact flt b hb⟩) hkind hown hfree hout hcl1 hcl2 (by rw[hDD];exact hCle) hDC hDle hns₁ old hacc
  generalize hd:(⟨cl,C,s₂,H2,fp⟩:Dyn)=d at *;obtain⟨W,⟨m0,w0⟩,turn⟩:=hW d
  have Xs:∀{pl:List (Addr×Obj)} {H':Hp},(∀b∈fp,H' b=none)->(∀p∈pl,p.1=D)->∀b∈fp,FpOk (yc X scope (ts++N2) d) pl H' b:=fun {pl H'} hn hp b hb=>by
    subst hd;obtain⟨f0,f1,f3,f4,f5,f6⟩:=f2 b hb;refine⟨hn b hb,(below b (flt b hb)).1,fun z => ?_,.inl hb,fun x c e=>f5 x c (hcl1 x c e),fun p hp' => ?_⟩
    . rcases ZK.mp (I2.stkSub b z) with z | z
      . exact f1 z
      . exact f3 z
    . rw[hp p (by simpa using hp')]
      exact Ne.symm (below b (flt b hb)).2
  have loop:∀s₃:Shared,s₃={ s₂ with heap:=h₁,toks:=s₂.toks+([]:List (Str×Value)).length } ->
      codeAny (model X.prog X.w) X.A (.compLoop (.ListComp elt [⟨tg,iter,ifs,0⟩] scope pos) 0 (.ref it) (.ref D) (compEnvC scope cl C X.env)) (RR (.ref D) C) s₃:=by
    rintro s₃ rfl
    refine zco (fun n s'=>∃i ys H' its,Inv (yc X scope (ts++N2) d) [(D,lobj its)] (List.replicate ts.length none++σ) H' s'/\tn i s'.heap/\(∀b∈fp,H' b=none)/\Vals ys its/\W i n ys H') ?_ m0
      ⟨0,[],H2,[],I4 _,T.keep _ _ _ st fun b _ o e=>old b o e,fun b hb=>(f2 b hb).1,.nil,w0⟩
    rintro n s3 ⟨i,ys,H3,its,I3,st3,fr3,hv3,w3⟩
    obtain⟨hlen,tr⟩:=turn i n ys H3 w3
    have one:∀p∈[(D,lobj its)],p.1=D:=fun p hp=>by
      have e:p=(D,lobj its):=by simpa using hp
      rw[e]
    have eenv:(yc X scope (ts++N2) d).env=compEnvC scope cl C X.env:=by subst hd;rfl
    rcases tr with ⟨stop,fin⟩ | ⟨go,N,hN,step⟩
    . refine thn (T.done (yc X scope (ts++N2) d) rfl rfl rfl rfl i _ s3 _ H3 (fun _ _=>False) I3 (Xs fr3 one) st3 stop) fun r s4 ⟨hr,J4⟩ => ?_
      subst hr
      show RR (.ref D) C (.ok .next) s4
      obtain⟨pe,pn,_⟩:=J4.pin (D,lobj its) (by simp);have fC:H3 C=none:=by have:=J4.free;rw[eenv]at this;exact this
      have nC:∃m,s4.heap.Ns C m:=by
        obtain⟨m,z,_⟩:=J4.loc;rw[eenv]at z;exact⟨m,z⟩
      subst hd;exact hRR D C s4 H3 ys hCle (Ne.symm hDC) (zdf I2 f2 hDle J4 pe pn hv3 hlen) pn fC nC hlen fin
    . refine thn (T.item (yc X scope (ts++N2) d) rfl rfl rfl rfl i _ s3 _ H3 (fun _ _=>False) I3 (Xs fr3 one) st3 go) fun r s4 ⟨u,hr,h4⟩ => ?_
      subst hr;refine thn h4 fun _ s5 ⟨x,H5,I5,r5,y5,st5,fr5⟩ => ?_
      have I5':=I5.pinned (Xs fr5 one) (T.obj _ _ st5);rw[<-eenv];refine thn (hg d _ s5 _ H5 x u _ I5' r5 (step x H5 y5)) fun _ s6 ⟨σ6,H6,I6,hdrop,q6⟩ => ?_
      have back:∀{ys':List V} {its':List Value} {H':Hp} {s':Shared} {pl:List (Addr×Obj)},Inv (yc X scope (ts++N2) d) ([(D,lobj its')]++pl) σ6 H' s'->Inv (yc X scope (ts++N2) d) [(D,lobj its')] (List.replicate ts.length none++σ) H' s':=fun {ys' its' H' s' pl} I'=>by
        have hl:σ6.length=(ts++N2).length:=I'.len;refine(I'.pins_of (pins':=[(D,lobj its')]) fun p hp=>I'.pin p (Zu _ (Yg _ hp))).weak ?_ ?_
        . rw[hl];exact I3.len
        . intro j v e
          by_cases hj:j<ts.length
          . rw[Zg (by simpa using hj),Yl]at e
            split at e <;> cases e
          . have hj':ts.length<=j:=ZD.mp hj
            rw[Zf (by simpa using hj'),ZI,<-hdrop,ZQ]at e;rw[show ts.length+(j-ts.length)=j by omega]at e;exact e
      refine thn (ht d _ s6 σ6 H6 _ I6 q6) fun b s7 ⟨H7,I7,q7⟩ => ?_
      have pinsOf:∀{its':List Value} {H':Hp} {s':Shared},Inv (yc X scope (ts++N2) d) ([(D,lobj its')]++jg fp s5.heap) σ6 H' s'->(∀b∈fp,∀o,s5.heap.get? b=some o->s'.heap.get? b=some o)/\∀b∈fp,H' b=none:=fun {its' H' s'} I'=>by
        refine⟨fun b hb o e=>(I'.pin (b,o) (Zu _ (Zu _ (ul hb e)))).1,fun b hb => ?_⟩;obtain⟨o,e,_⟩:=T.obj _ _ st5 b hb;exact(I'.pin (b,o) (Zu _ (Zu _ (ul hb e)))).2.1
      cases b with
      | false =>
        have q7':N ys H7:=by simpa using q7
        obtain⟨m',hm,w7⟩:=hN _ _ q7';obtain⟨k1,k2⟩:=pinsOf I7
        show ∃m,m<n/\_
        exact⟨m',hm,i+1,ys,H7,its,back (ys':=ys) I7,T.keep _ _ _ st5 k1,k2,hv3,w7⟩
      | true =>
        have q7':te d σ6 H7 fun v H4=>N (ys++[v]) H4:=by simpa using q7
        show wpAny _ _ _ _ _ _
        refine wpAny_mono (he d _ _ s7 σ6 H7 _ (I7.intry fun _ c H'=>Ex c H') q7') (fun y s8 ⟨v,H8,I8',r8,n8⟩ => ?_) (fun e s8 hx9=>by
          obtain⟨pl9,σ9,H9,s9,J9,cx9⟩:=hx9;have K9:=Inv.outtry (X:=yc X scope (ts++N2) d) J9;obtain⟨m9,n9,_⟩:=id K9.loc;rw[eenv]at n9;have f9:=K9.free;rw[eenv]at f9
          have I9:Inv X pins σ H9 s9:=by
            subst hd;exact zj1 I2 f2 K9
          rw[eenv]
          exact hRE (.ref D) C H9 s9 e s8 m9 hCle I9 n9 f9 cx9)
        have I8:=Inv.outtry (X:=yc X scope (ts++N2) d) I8';obtain⟨m',hm,w8⟩:=hN _ _ n8;obtain⟨k1,k2⟩:=pinsOf I8;obtain⟨pe,pn,pC,pf,pd⟩:=I8.pin (D,lobj its) (by simp);have hsz:its.toArray.size<=sizeLine:=by rw[Zr,<-hv3.length];exact hlen
        refine append_at (hsz:=hsz) pe fun h9 sb9 e9 => ?_
        have J8:Inv (yc X scope (ts++N2) d) [] σ6 H8 s8:=I8.pins_of fun p hp=>nomatch hp
        have hDs:(yc X scope (ts++N2) d).s₀.heap.objs.size<=D:=by subst hd;exact hDle
        have J9:Inv (yc X scope (ts++N2) d) [] σ6 H8 { s8 with heap:=h9 }:=J8.turned (t':=s8.toks) (it:=D) (fun b o hb e=>sb9.extBut b o hb e) pn pC (.inr hDs)
          (fun x c e=>by
            obtain⟨v',z⟩:=I3.cell x c e;subst hd;obtain⟨v2,z2⟩:=I2.cell x c (hcl1 x c e)
            exact Zs (Zh z2.lt hDle)) (fun p hp=>nomatch hp)
        have e9':h9.get? D=some (lobj (its++[y])):=by
          rw[e9]
          show some ({ cls:=.type "list", data:=.seq (its.toArray.push y) (its.length+1) }:Obj)=some { cls:=.type "list", data:=.seq (its++[y]).toArray (its++[y]).length }
          rw[Zo,Yd,List.push_toArray]
        have J9':Inv (yc X scope (ts++N2) d) ([(D,lobj (its++[y]))]++[]) σ6 H8 { s8 with heap:=h9 }:=J9.pins_of fun p hp=>by
          have e:p=(D,lobj (its++[y])):=by simpa using hp
          subst e;exact⟨e9',pn,pC,pf,fun v z=>by cases z⟩
        refine⟨m',hm,i+1,ys++[v],H8,its++[y],back (ys':=ys) J9',?_,k2,hv3.append (.cons r8 .nil),w8⟩;exact T.keep _ _ _ st5 fun b hb o e=>sb9.extBut b o (below b (flt b hb)).2 (k1 b hb o e)
  exact codeAny_compStart_list (loop _ rfl) (T.self _ 0 _ _ _ (T.keep _ _ _ st fun b _ o e=>old b o e) (loop _ rfl))
end
theorem zkg{X:Cx}{P:Program}{w:World}{K:Fg}{mg:Str->Option Value}{base:Heap}{NN:List Str}{qual:Str}{scp:Scope}{f:Addr}{cd:Value}{A:Around}{outer:List Env}{s0:Shared}{H0:Hp}{E:XK}(hX:X=cxOf (CX1 P w) P w K mg base NN qual scp f cd A outer s0 H0 E){tg elt iter:Expr}{ifs:List Expr}{scope:Scope}{pos spos py:Pos}{i:Nat}{y:Str}(ts N2:List Str){wi:TI}{g:Dyn->TG}{tt:Dyn->TT}{te:Dyn->TE}(hN:X.N.Nodup)(hi':X.N[i]? = some y)(hy:X.env.scope.names.lookup y=some .local)(hc:X.calm=true)(hi:PI X tg iter wi)
    (hg:∀d,PG (yc X scope (ts++N2) d) tg (g d)) (ht:∀d,PTs (yc X scope (ts++N2) d) ifs (tt d)) (he:∀d pn,PE (jp (yc X scope (ts++N2) d) pn fun _ c H'=>E c none H') elt (te d))
    (hkind:scope.kind=.function) (hown:nw scope.names=true) (hfree:ox scope.names X.env=true) (hout:vv scope.names N2 X.N=true)
    (hsw:swapsWith (.ListComp elt [⟨tg,iter,ifs,0⟩] scope pos) (some (.Name y py)) spos.line X.env=pure true)
    (hs:∀x,foldedSetIterable iter X.env x=pure x:=by intro _;rfl):PS X (.Assign [.Name y py] (.ListComp elt [⟨tg,iter,ifs,0⟩] scope pos) spos) (zfw i (zb4 ts.length wi g tt te)):=by
  intro pins s σ H D0 I h;obtain⟨cl,hclos,hcl1,hcl2⟩:=ib (scope:=scope) (env:=X.env) fun z hz hf=>I.ok.has z.1 (o9 hfree hz hf)
  rw[exec_Assign_Name_used _ _ _ _ hsw];refine wpAny_bind (wpAny_standAt (wpAny_bind ?_))
  show wpAny _ X.A (do let _ <-comprehension (.ListComp elt [⟨tg,iter,ifs,0⟩] scope pos) scope X.env _ (newList []) false (eval iter X.env) (some (assign (.Name y py) X.env))) _ _ s
  refine wpAny_bind (wpAny_mono (wpAny_comprehension_free (use:=some (assign (.Name y py) X.env)) (Q:=fun _ s'=>SP X pins D0 .next s') rfl hs hclos hkind (k8 hown)
    (thn (hi pins s σ H _ I h) fun v s1 h1=>thn h1 fun itv s2 h2 => ?_)) (fun _ s' hq=>wpAny_pure (wpAny_pure hq)) fun _ _ e=>e)
  obtain⟨it,fp,tn,J,H2,e,I2,T,st2,f2,hW⟩:=h2;subst e;refine zea (Ex:=fun c H'=>E c none H') (RR:=fun acc C=>compPost (model X.prog X.w) X.A X.xe (some (assign (.Name y py) X.env)) (fun _ s'=>SP X pins D0 .next s') acc C) I2 hc T st2 f2 hkind hown hfree hout hcl1 hcl2 hg ht he hW ?_ (fun acc C H' s' e s'' m hC I' hn hf cx=>passC hX I' hn hf (Zd I2.sz hC) (Yb (Zh I2.lt hC)) (fun b hb z=>absurd (Zh (stk_lt I2 hb) hC) (by rw[z];exact ZJ _)) cx);intro D C s' H' ys hC hCD I' hD hCn hNs hl fin;obtain⟨m,hm⟩:=hNs
  show wpAny _ _ _ _ _ _
  have hcl:C≠X.env.locals:=Yb (Zh I2.lt hC)
  have hcc:∀x c,X.env.cells.lookup x=some c->c≠C:=fun x c e=>by
    obtain⟨v,q⟩:=I2.cell x c e;exact Zs (Zh q.lt hC)
  refine wpAny_assign_Name (il I' hN hi' (.inl hy) (v:=.ref D) (u:=.ref D) rfl (fun s'' I'' ⟨a,sb,ha⟩ => ?_) (.inr hy))
  have haC:C≠a:=by
    rcases ha with z | z
    . rw[z];exact hcl
    . exact Ne.symm (hcc y a z)
  refine⟨m,hm.sameBut sb haC,fun h' sb' => ?_⟩
  have I3:Inv X pins (σ.set i (some (.ref D))) (upd H' D (.lst ys)) { s'' with heap:=h' }:=by
    refine I''.turned (t':=s''.toks) (it:=C) (fun b o hb e=>sb'.extBut b o hb e) (by rw[z8 hCD];exact hCn) hcl (.inr (Zd I2.sz hC)) hcc fun p hp => ?_
    exact Zs (Zh (Heap.lt_size (I2.pin p hp).1) hC)
  exact⟨_,_,I3,fin D hD⟩
end L2
namespace L2
open PySem PySem.Spec PyProof.Rows
theorem zaa{x y:Str}{a c:Nat}{pre post r:List Nat}(hy:y.cps.toList=c::r)(hd:x.cps.toList.drop a=pre++(y.cps.toList++post)):StrLaws.At x y x.length (a+pre.length):=by
  have hl:x.cps.toList.length=x.length:=by simp[Str.length]
  have hly:y.cps.toList.length=y.length:=by simp[Str.length]
  have h1:1<=y.length:=by rw[<-hly,hy];simp
  have e:(x.cps.toList.drop a).length=pre.length+(y.length+post.length):=by rw[hd];simp[hly]
  rw[ZR,hl]at e
  have hd2:x.cps.toList.drop (a+pre.length)=y.cps.toList++post:=by
    rw[<-List.drop_drop,hd,YJ]
  refine⟨by omega,?_⟩;rw[StrLaws.subAt_eq,hd2,<-hly,YK];simp
theorem dz{x y:Str}{c k:Nat}{r:List Nat}(hy:y.cps.toList=c::r)(h:StrLaws.At x y x.length k):x.cps.toList[k]? = some c:=by
  have h2:=h.2;rw[StrLaws.subAt_eq]at h2;have h3:(x.cps.toList.drop k).take y.length=c::r:=by rw[<-hy];exact eq_of_beq h2
  have h4:((x.cps.toList.drop k).take y.length)[0]? = some c:=by rw[h3];rfl
  have hly:0<y.length:=by
    have:y.cps.toList.length=y.length:=by simp[Str.length]
    rw[<-this,hy];simp
  rw[Yy hly,ZQ]at h4;exact h4
theorem ae{y:Str}{c:Nat}{r:List Nat}(hy:y.cps.toList=c::r)(x:Str):∀(ps:List Str) (cuts:List Nat) (a f:Nat),ps≠[]->(∀p∈ps,c∉p.cps.toList)->a<=x.length->x.cps.toList.drop a=(Str.join y ps).cps.toList->StrLaws.ChainG x y x.length a cuts f->(∀k,f<=k->¬StrLaws.At x y x.length k)->StrLaws.partsFrom x y.length a cuts=ps
  | [],_,_,_,h,_,_,_,_,_=>absurd rfl h
  | [p],cuts,a,f,_,hf,ha,hd,hG,hn=>by
    have hl:x.cps.toList.length=x.length:=by simp[Str.length]
    have hd':x.cps.toList.drop a=p.cps.toList:=hd
    cases cuts with
    | nil =>
      show [Builtin.Str.strSub x a x.length]=[p]
      congr 1
      apply Str.ext'
      apply ZX.mp
      rw[StrLaws.strSub_toList,hd',ZG];rw[<-hd',ZR,hl];omega
    | cons k rest =>
      exfalso
      have hc:=dz hy hG.2.1;have:(x.cps.toList.drop a)[k-a]? = some c:=by rw[ZQ,show a+(k-a)=k by have:=hG.1;omega];exact hc
      rw[hd']at this;exact hf p ZA (Zi this)
  | p::q::ps,cuts,a,f,_,hf,ha,hd,hG,hn=>by
    have hl:x.cps.toList.length=x.length:=by simp[Str.length]
    have hly:y.cps.toList.length=y.length:=by simp[Str.length]
    have hlp:p.cps.toList.length=p.length:=by simp[Str.length]
    have hd':x.cps.toList.drop a=p.cps.toList++(y.cps.toList++(Str.join y (q::ps)).cps.toList):=by
      rw[hd]
      show(p++y++Str.join y (q::ps)).cps.toList=_
      simp only[Str.cps_append,Yu,ZV]
    have hA:=zaa hy hd';rw[hlp]at hA
    cases cuts with
    | nil =>
      have e:f=a:=hG;exact absurd hA (hn _ (by omega))
    | cons k rest =>
      obtain⟨g1,g2,g3,g4⟩:=hG;have hc:=dz hy g2;have h1:k<=a+p.length:=ZD.mp fun z=>g3 _ (Nat.le_add_right _ _) z hA
      have h2:¬k-a<p.length:=fun z=>by
        have:(x.cps.toList.drop a)[k-a]? = some c:=by rw[ZQ,show a+(k-a)=k by omega];exact hc
        rw[hd',Zg (by rw[hlp];exact z)]at this;exact hf p ZA (Zi this)
      have ek:k=a+p.length:=by omega
      subst ek;have hk:=g2.1
      have ih:=ae hy x (q::ps) rest (a+p.length+y.length) f (by simp) (fun z hz=>hf z (Zv _ hz)) (by omega) (by
        rw[Nat.add_assoc,<-List.drop_drop,hd',<-ZV];have e2:(p.cps.toList++y.cps.toList).length=p.length+y.length:=by rw[Zo,hlp,hly]
        rw[<-e2,YJ]) g4 hn
      show Builtin.Str.strSub x a (a+p.length)::StrLaws.partsFrom x y.length (a+p.length+y.length) rest=p::q::ps
      rw[ih]
      congr 1
      apply Str.ext'
      apply ZX.mp
      rw[StrLaws.strSub_toList,hd',Nat.add_sub_cancel_left,<-hlp,YK]
theorem zcb(x:Str):1<=Builtin.Str.strKind x:=by
  unfold Builtin.Str.strKind
  split
  . exact Zm _
  . split <;> omega
theorem qm{y:Str}{c:Nat}{r:List Nat}(hy:y.cps.toList=c::r)(hk:Builtin.Str.strKind y=1){ps:List Str}(h0:ps≠[])(hf:∀p∈ps,c∉p.cps.toList):Txt.split (Str.join y ps) y=ps:=by
  generalize hx:Str.join y ps=x;have hly:y.cps.toList.length=y.length:=by simp[Str.length]
  have h1:1<=y.length:=by rw[<-hly,hy];simp
  obtain⟨f,hG,hn⟩:=StrLaws.occ_tight x y h1;have key:=ae hy x ps _ 0 f h0 hf (ZE _) (by rw[Yh,hx]) hG hn;unfold Txt.split
  split
  . rename_i hc
    rw[Bool.or_eq_true,decide_eq_true_eq,decide_eq_true_eq]at hc
    rcases hc with hc | hc
    . match ps,h0,hx with
      | [p],_,hx=>rw[<-hx];rfl
      | p::q::ps,_,hx =>
        exfalso
        have:(p++y++Str.join y (q::ps))=x:=hx;have e:=congrArg Str.length this;rw[Str.length_append,Str.length_append]at e;omega
    . have:=zcb x
      omega
  . split
    . rename_i he
      have e0:=List.isEmpty_iff.mp he;rw[e0]at key;have:[Builtin.Str.strSub x 0 x.length]=ps:=key;rw[StrLaws.sub_whole]at this;exact this
    . rw[StrLaws.partsBetween_eq]
      exact key
theorem vb(y:Str)(ps:List Str):Txt.join y ps=Str.join y ps:=StrLaws.glued_eq_join y ps
theorem ig:∀(k:Nat) (ps:List Str),Vals (ps.map V.str) (strsFrom k ps)
  | _,[]=>.nil
  | k,p::ps=>.cons ⟨k,rfl⟩ (ig (k+1) ps)
section
variable{X:Cx}
def zhw:V->List V->Hp->VK->Prop:=fun x vs H Q=>∃z y,x=.str z/\vs=[.str y]/\(y.length==0)=false/\z.length<=sizeLine/\(Txt.split z y).length<=sizeLine/\∀l,H l=none->Q (.ref l) (upd H l (.lst ((Txt.split z y).map V.str)))
theorem vd:MtM X "str.split" zhw:=by
  intro pins s σ H x vs v us Q I rx rv h;obtain⟨z,y,rfl,rfl,hy,hz,hn,q⟩:=h;obtain⟨t,rfl⟩:=rx;obtain⟨u,rfl,ru⟩:=rv.one;obtain⟨t2,rfl⟩:=ru
  have fin:∀(its:List Value) (tk:Nat),Vals ((Txt.split z y).map V.str) its->EP X pins σ Q (.ref s.heap.objs.size) { s with heap:=s.heap.push { cls:=.type "list", data:=.seq its.toArray },toks:=tk }:=fun its tk r =>
    ⟨.ref s.heap.objs.size,_,I.laid (t':=tk) (fun b o e=>Heap.get?_push_of_some _ e) (Zm _) (show ObjOk X.prog X.w _ _ _ (.lst ((Txt.split z y).map V.str)) from⟨by rw[Za];exact hn,its,_,r,Heap.get?_push_size _ rfl⟩),rfl,q _ (I.hok.fresh (Zm _))⟩
  by_cases h1:(decide (z.length<y.length)||decide (Builtin.Str.strKind z<Builtin.Str.strKind y))=true
  . have e:Txt.split z y=[z]:=by unfold Txt.split;rw[if_pos h1]
    rw[e]at fin;exact call_meets F.slot_str_split (typeIs_str _ _ _) F.entry_str_split (F.args_str_split_2 _ _) (meets_str_split_cannot_occur z y t t2 h1) (fin [.str z t] s.toks (.cons ⟨t,rfl⟩ .nil))
  . by_cases h2:(Builtin.Str.occurrences z y 0 z.length (z.length+1)).isEmpty=true
    . have e:Txt.split z y=[z]:=by unfold Txt.split;rw[if_neg h1,if_pos h2]
      rw[e]at fin;exact call_meets F.slot_str_split (typeIs_str _ _ _) F.entry_str_split (F.args_str_split_2 _ _) (meets_str_split_not_found z y t t2 (Bool.eq_false_iff.mpr h1) hy h2) (fin [.str z t] s.toks (.cons ⟨t,rfl⟩ .nil))
    . have e:Txt.split z y=Builtin.Str.partsBetween z (Builtin.Str.occurrences z y 0 z.length (z.length+1)) y.length:=by unfold Txt.split;rw[if_neg h1,if_neg h2]
      rw[e]at fin hn;exact call_meets F.slot_str_split (typeIs_str _ _ _) F.entry_str_split (F.args_str_split_2 _ _) (meets_str_split_sep z y t t2 (Bool.eq_false_iff.mpr h1) hy (Bool.eq_false_iff.mpr h2) hz hn) (fin _ _ (ig _ _))
theorem zko{x:V}{vs:List V}{H:Hp}{Q:VK}:zhw x vs H Q=∃z y,x=.str z/\vs=[.str y]/\(y.length==0)=false/\z.length<=sizeLine/\(Txt.split z y).length<=sizeLine/\∀l,H l=none->Q (.ref l) (upd H l (.lst ((Txt.split z y).map V.str))):=rfl
end
end L2
namespace L2
open PySem PySem.Spec PyProof.Rows
end L2
namespace L2
open PySem PySem.Spec PyProof.Rows
end L2
namespace L2
open PySem PySem.Spec PyProof.Rows
def rIntS(xs:List V)(H:Hp)(Q:VK):Prop:=∃(x:Str) (n:Int),xs=[.str x]/\PySem.intText? x=some n/\x.length<=640/\Q (.int n) H
theorem e_intS{xs:List V}{H:Hp}{Q:VK}:rIntS xs H Q=∃(x:Str) (n:Int),xs=[.str x]/\PySem.intText? x=some n/\x.length<=640/\Q (.int n) H:=rfl
section
variable{X:Cx}
theorem zbf:w9 X (.type "int") rIntS:=by
  intro pins s σ H xs us Q I r h;obtain⟨x,n,rfl,hn,hl,q⟩:=h;obtain⟨u,rfl,t,rfl⟩:=qt r;exact PySem.W.KIN.call_text hn hl ⟨.int n,H,I.tok _,⟨_,rfl⟩,q⟩
end
section
variable{a b c d t e u:TS}{tc:TT}{D:Ends}{σ:L2.St}{H:Hp}
theorem rm(h:∀T:TS,T=t->tSeq a T D σ H):tSeq a t D σ H:=h t rfl
theorem hide2(h:∀T:TS,T=t->tSeq a (tSeq b T) D σ H):tSeq a (tSeq b t) D σ H:=h t rfl
theorem hide3(h:∀T:TS,T=t->tSeq a (tSeq b (tSeq c T)) D σ H):tSeq a (tSeq b (tSeq c t)) D σ H:=h t rfl
theorem zb6(h:∀T:TS,T=t->tSeq a (tSeq b (tSeq c (tSeq d T))) D σ H):tSeq a (tSeq b (tSeq c (tSeq d t))) D σ H:=h t rfl
theorem hideK(h:∀T:TS,T=t->tSeq (tIfS tc T e) u D σ H):tSeq (tIfS tc t e) u D σ H:=h t rfl
theorem zge(h:∀T U:TS,T=t->U=u->tSeq (tIfS tc T e) U D σ H):tSeq (tIfS tc t e) u D σ H:=h t u rfl rfl
end
end L2
namespace L2
open PySem PySem.Spec PyProof.Rows
section
variable{P:Program}{w:World}{A:Around}{E:Value->Shared->Prop}{s:Shared}
end
def zif(H:Hp)(kvs:List (List Key×V))(as:List Addr):Prop:=Paired (fun(p:List Key×V) (a:Addr)=>H a=some (.tup (p.1.map kV))) kvs as
def rListT(xs:List V)(H:Hp)(Q:VK):Prop:=∃(a:Addr) (kvs:List (List Key×V)),xs=[.ref a]/\H a=some (.dT kvs)/\∀as,zif H kvs as->∀p,H p=none->Q (.ref p) (upd H p (.lst (as.map V.ref)))
theorem zk4{xs:List V}{H:Hp}{Q:VK}:rListT xs H Q=∃(a:Addr) (kvs:List (List Key×V)),xs=[.ref a]/\H a=some (.dT kvs)/\∀as,zif H kvs as->∀p,H p=none->Q (.ref p) (upd H p (.lst (as.map V.ref))):=rfl
section
variable{X:Cx}
end
theorem zgj(n:Nat):sliceRange ((n:Int)-1) (-1) (-1)=(List.range n).map fun k=>n-1-k:=by
  unfold sliceRange;simp only[show ¬((-1:Int) > 0) by decide,if_false,show-(-1:Int)=1 by decide,Int.ediv_one]
  have hc:(if ((n:Int)-1 > -1) then((n:Int)-1 - -1 - -1-1) else 0).toNat=n:=by
    split <;> omega
  rw[hc];refine List.map_congr_left fun k _ => ?_
  omega
theorem zah{α β:Type}{f:α->Option β}{g:α->β}:∀{l:List α},(∀a∈l,f a=some (g a))->l.filterMap f=l.map g
  | [],_=>rfl
  | a::l,h=>by rw[Ys,h a (by simp),ZM,zah fun b hb=>h b (by simp[hb])]
theorem zi7(its:List Value):slicePick its.toArray none none (some (-1))=its.reverse.toArray:=by
  have hb:sliceBounds none none (some (-1)) its.toArray.size=(((its.length:Nat):Int)-1,-1,-1):=by simp[sliceBounds]
  unfold slicePick;rw[hb,zgj,List.filterMap_map]
  congr 1
  rw[zah (g:=fun k=>its.getD (its.length-1-k) .none) fun k hk => ?_]
  . refine List.ext_getElem (by simp) fun i h1 h2 => ?_
    have hi:i<its.length:=by simpa using h2
    have hj:its.length-1-i<its.length:=by omega
    simp[Zb hj]
  . have hi:k<its.length:=ZT.mp hk
    have hj:its.length-1-k<its.length:=by omega
    simp[Zb hj]
section
variable{X:Cx}{e st:Expr}{te:TE}{ts:TO}{pos p2:Pos}
def tDown(K:Fg)(te:TE)(ts:TO):TE:=fun σ H Q=>te σ H fun x H1=>ts σ H1 fun k H2=>k=some (-1)/\∃a xs,x=.ref a/\SqL K H2 a xs/\∀p,H2 p=none->Q (.ref p) (upd H2 p (.lst xs.reverse))
theorem zjo{xs:List V}{vs:List Value}(r:Vals xs vs):Vals xs.reverse vs.reverse:=by
  induction r with
  | nil=>exact .nil
  | @cons x v xs vs h _ ih =>
    rw[List.reverse_cons,List.reverse_cons];exact ih.append (.cons h .nil)
theorem e_down{K:Fg}{σ:St}{H:Hp}{Q:VK}:tDown K te ts σ H Q=te σ H fun x H1=>ts σ H1 fun k H2=>k=some (-1)/\∃a xs,x=.ref a/\SqL K H2 a xs/\∀p,H2 p=none->Q (.ref p) (upd H2 p (.lst xs.reverse)):=rfl
end
end L2
namespace L2
open PySem PySem.Spec PyProof.Rows
section
variable{X:Cx}{tg:Expr}
end
end L2
namespace L2
open PySem PySem.Spec PyProof.Rows
section
variable{prog:Program}{w:World}{K:Type}[DecidableEq K]{knd:KeyKind prog w K}
end
section
variable{X:Cx}{pins:List (Addr×Obj)}{σ:St}{H:Hp}{s:Shared}
end
end L2
namespace L2
open PySem PySem.Spec PyProof.Rows
section
variable{prog:Program}{w:World}{K:Type}[DecidableEq K]{knd:KeyKind prog w K}{A:Around}{E:Value->Shared->Prop}{s:Shared}
end
section
variable{X:Cx}
end
end L2
namespace L2
open PySem PySem.Spec PyProof.Rows AutoSeq1
set_option maxHeartbeats 1000000 in
section
variable{prog:Program}{w:World}{A:Around}{E:Value->Shared->Prop}{s:Shared}
end
section
variable{σ:St}{k:Nat}{g:TG}{tt:TT}{te:TE}{H1:Hp}{Fin:List V->Hp->Prop}
end
end L2
namespace L2
open PySem PySem.Spec PyProof.Rows
section
variable{X:Cx}{c e:Expr}{te:TE}{x:Str}{p2 pos:Pos}
end
section
variable{X:Cx}
end
end L2
namespace L2
open PySem PySem.Spec PyProof.Rows
section
variable{X:Cx}
end
section
variable{σ:St}{k:Nat}{g:TG}{tt:TT}{te:TE}{H1:Hp}{Fin:List V->Hp->Prop}
end
end L2
namespace L2
open PySem PySem.Spec PyProof.Rows
theorem zjs(n:Nat):sliceRange 0 (n:Int) 1=(List.range n).map fun k=>k:=by
  unfold sliceRange;simp only[show((1:Int) > 0) by decide,if_true,Int.ediv_one]
  have hc:(if ((n:Int) > 0) then((n:Int)-0+1-1) else 0).toNat=n:=by
    split <;> omega
  first
    | rw[hc]
    | (have hc2:(if (0:Int)<(n:Int) then((n:Int)-0+1-1) else 0).toNat=n:=by split <;> omega
       rw[hc2])
  refine List.map_congr_left fun k _ => ?_
  omega
theorem zlj(its:List Value):slicePick its.toArray none none (some 1)=its.toArray:=by
  have hb:sliceBounds none none (some 1) its.toArray.size=(0,((its.length:Nat):Int),1):=by simp[sliceBounds]
  unfold slicePick;rw[hb,zjs,List.filterMap_map]
  congr 1
  rw[zah (g:=fun k=>its.getD k .none) fun k hk => ?_]
  . refine List.ext_getElem (by simp) fun i h1 h2 => ?_
    have hi:i<its.length:=by simpa using h2
    simp[Zb hi]
  . have hi:k<its.length:=ZT.mp hk
    simp[Zb hi]
section
variable{X:Cx}{e st:Expr}{te:TE}{ts:TO}{pos p2:Pos}
def tWay(K:Fg)(te:TE)(ts:TO):TE:=fun σ H Q=>te σ H fun x H1=>ts σ H1 fun k H2=>∃up:Bool,k=some (if up then 1 else -1)/\∃a xs,x=.ref a/\SqL K H2 a xs/\∀p,H2 p=none->Q (.ref p) (upd H2 p (.lst (if up then xs else xs.reverse)))
theorem e_way{K:Fg}{σ:St}{H:Hp}{Q:VK}:tWay K te ts σ H Q=te σ H fun x H1=>ts σ H1 fun k H2=>∃up:Bool,k=some (if up then 1 else -1)/\∃a xs,x=.ref a/\SqL K H2 a xs/\∀p,H2 p=none->Q (.ref p) (upd H2 p (.lst (if up then xs else xs.reverse))):=rfl
theorem pe_way(he:PE X e te)(hs:PO X (some st) ts):PE X (.Subscript e (.Slice none none (some st) p2) pos) (tWay X.K te ts):=by
  intro pins s σ H Q I h;refine Subscript_ (thn (he pins s σ H _ I h) fun v s1 ⟨x,H1,I1,r1,q1⟩ => ?_);refine wpAny_Slice ?_;rw[evalPart_none];refine wpAny_pure (wpAny_pure ?_);refine thn (hs pins s1 σ H1 _ I1 q1) fun vk s3 ⟨k,H3,I3,pk,q3⟩ => ?_
  obtain⟨up,rfl,a,xs,rfl,hx,q⟩:=q3;cases r1;have I4:Inv X pins σ H3 { s3 with heap:=s3.heap.push { cls:=.type "slice", data:=.fields #[.none,.none,vk] } }:=I3.kept (t':=s3.toks) fun b ob q=>Heap.get?_push_of_some _ q
  obtain⟨its,r,ht,hz⟩:=I4.list hx;have hlen:=r.length
  show wpAny (model X.prog X.w) X.A (subscriptTail e (.Slice none none (some st) p2) (.ref a) (.ref s3.heap.objs.size)) (EP X pins σ Q) X.xe { s3 with heap:=s3.heap.push { cls:=.type "slice", data:=.fields #[.none,.none,vk] } }
  refine tail_any (ops:=[.ref a,.ref s3.heap.objs.size]) ht.isList.typeIs slot_list_getitem.lookup ?_ (by with_unfolding_all rfl)
  cases up with
  | false =>
    refine wpAny_getItem_list_slice ht.isList (Heap.IsSliceOf.new ..) .none .none pk (by simp) ?_ (by rw[Zr] <;> omega);rw[show(if false=true then(1:Int) else -1) = -1 from rfl,zi7];refine⟨.ref _,_,I4.laid (t':=s3.toks) (o:=.lst xs.reverse) (fun b ob q=>Heap.get?_push_of_some _ q) (Zm _) ?_,rfl,q _ (I4.hok.fresh (Zm _))⟩;exact⟨by rw[YH];exact hz,_,0,zjo r,Heap.get?_push_size _ rfl⟩
  | true =>
    refine wpAny_getItem_list_slice ht.isList (Heap.IsSliceOf.new ..) .none .none pk (by simp) ?_ (by rw[Zr] <;> omega);rw[show(if true=true then(1:Int) else -1)=1 from rfl,zlj];refine⟨.ref _,_,I4.laid (t':=s3.toks) (o:=.lst xs) (fun b ob q=>Heap.get?_push_of_some _ q) (Zm _) ?_,rfl,q _ (I4.hok.fresh (Zm _))⟩;exact⟨hz,_,0,r,Heap.get?_push_size _ rfl⟩
end
section
variable{prog:Program}{w:World}{K:Type}[DecidableEq K]{knd:KeyKind prog w K}{A:Around}{E:Value->Shared->Prop}{s:Shared}
end
end L2
namespace L2
open PySem PySem.Spec PyProof.Rows
section
variable{X:Cx}{tg:Expr}
end
section
variable{X:Cx}
end
end L2
namespace L2
open PySem PySem.Spec PyProof.Rows
section
variable{X:Cx}
end
section
variable{X:Cx}
end
section
variable{σ:St}{k:Nat}{g:TG}{tt:TT}{te:TE}{H1:Hp}{Fin:List V->Hp->Prop}
end
end L2
namespace L2
open PySem PySem.Spec PyProof.Rows
section
variable{X:Cx}{pins:List (Addr×Obj)}{σ:St}{H:Hp}{s:Shared}{A:Around}{E:Value->Shared->Prop}
end
section
variable{X:Cx}{o e f:Expr}{apos cpos:Pos}{td ty tx:TE}
end
end L2
namespace L2
open PySem PySem.Spec PyProof.Rows
section
variable{X:Cx}
end
section
variable{X:Cx}{o e f:Expr}{apos cpos:Pos}{td ty tx:TE}
end
end L2
namespace L2
open PySem PySem.Spec PyProof.Rows
section
variable{X:Cx}
def rSlS:V->Option Int->Option Int->Hp->VK->Prop:=fun x _ _ H Q=>∃z:Str,x=.str z/\z.length<=sizeLine/\∀y:Str,y.length<=z.length->Q (.str y) H
theorem e_slS{x:V}{lo hi:Option Int}{H:Hp}{Q:VK}:rSlS x lo hi H Q=∃z:Str,x=.str z/\z.length<=sizeLine/\∀y:Str,y.length<=z.length->Q (.str y) H:=rfl
end
end L2
namespace L2
open PySem PySem.Spec PyProof.Rows
section
variable{X:Cx}
def rPart:V->List V->Hp->VK->Prop:=fun x vs H Q=>∃z y,x=.str z/\vs=[.str y]/\(y.length==0)=false/\z.length<=sizeLine/\∀l,H l=none->Q (.ref l) (upd H l (.tup [.str (Txt.partition z y).1,.str (Txt.partition z y).2.1,.str (Txt.partition z y).2.2]))
theorem zly{x:V}{vs:List V}{H:Hp}{Q:VK}:rPart x vs H Q=∃z y,x=.str z/\vs=[.str y]/\(y.length==0)=false/\z.length<=sizeLine/\∀l,H l=none->Q (.ref l) (upd H l (.tup [.str (Txt.partition z y).1,.str (Txt.partition z y).2.1,.str (Txt.partition z y).2.2])):=rfl
theorem gx:MtM X "str.partition" rPart:=by
  intro pins s σ H x vs v us Q I rx rv h;obtain⟨z,y,rfl,rfl,hy,hz,q⟩:=h;obtain⟨t,rfl⟩:=rx;obtain⟨u,rfl,ru⟩:=rv.one;obtain⟨t2,rfl⟩:=ru
  have fin:∀(its:List Value) (tk:Nat),Vals [.str (Txt.partition z y).1,.str (Txt.partition z y).2.1,.str (Txt.partition z y).2.2] its->EP X pins σ Q (.ref s.heap.objs.size) { s with heap:=s.heap.push { cls:=.type "tuple", data:=.seq its.toArray },toks:=tk }:=fun its tk r =>
    ⟨.ref s.heap.objs.size,_,I.laid (t':=tk) (fun b o e=>Heap.get?_push_of_some _ e) (Zm _) (show ObjOk X.prog X.w _ _ _ (.tup [.str (Txt.partition z y).1,.str (Txt.partition z y).2.1,.str (Txt.partition z y).2.2]) from⟨by show 3<=sizeLine;decide,its,r,IsTupD.new _ _⟩),rfl,q _ (I.hok.fresh (Zm _))⟩
  refine call_meets F.slot_str_partition (typeIs_str _ _ _) F.entry_str_partition (F.args_str_partition_2 _ _) (meets_str_partition z y t t2 hy hz) ?_;unfold Txt.partition at fin
  revert fin
  cases Builtin.Str.occurrences z y 0 z.length 1 with
  | nil=>intro fin;exact fin _ _ (.cons ⟨_,rfl⟩ (.cons ⟨_,rfl⟩ (.cons ⟨_,rfl⟩ .nil)))
  | cons i r=>intro fin;exact fin _ _ (.cons ⟨_,rfl⟩ (.cons ⟨_,rfl⟩ (.cons ⟨_,rfl⟩ .nil)))
def ze6:V->List V->Hp->VK->Prop:=fun x vs H Q=>∃z y,x=.str z/\vs=[.str y]/\Q (.bl (Txt.startswith z y)) H
theorem zkj{x:V}{vs:List V}{H:Hp}{Q:VK}:ze6 x vs H Q=∃z y,x=.str z/\vs=[.str y]/\Q (.bl (Txt.startswith z y)) H:=rfl
theorem zi4:MtM X "str.startswith" ze6:=by
  intro pins s σ H x vs v us Q I rx rv h;obtain⟨z,y,rfl,rfl,q⟩:=h;obtain⟨t,rfl⟩:=rx;obtain⟨u,rfl,ru⟩:=rv.one;obtain⟨t2,rfl⟩:=ru;exact call_gives F.slot_str_startswith (typeIs_str _ _ _) F.entry_str_startswith (F.args_str_startswith_2 _ _) (gives_str_startswith z y t t2) ⟨.bl _,H,I,rfl,q⟩
def intS(n:Int):Str:=Str.ofString (toString n)
def zgu(xs:List V)(H:Hp)(Q:VK):Prop:=∃n:Int,xs=[.int n] /\ -(10^61)<n/\n<10^61/\Q (.str (intS n)) H
theorem e_strI{xs:List V}{H:Hp}{Q:VK}:zgu xs H Q=∃n:Int,xs=[.int n] /\ -(10^61)<n/\n<10^61/\Q (.str (intS n)) H:=rfl
theorem l7:w9 X (.type "str") zgu:=by
  intro pins s σ H xs us Q I r h;obtain⟨n,rfl,h1,h2,q⟩:=h;obtain⟨u,rfl,t,rfl⟩:=qt r;exact P.str_of_int (shown h1 h2 (by decide +kernel)) ⟨.str (intS n),H,I.tok _,⟨_,rfl⟩,q⟩
end
end L2
namespace L2
open PySem PySem.Spec PyProof.Rows
structure MtIn(K:Fg)(C:Addr)(m qual:Str)(st:Stmt)(ps:List Str):Prop where
  ex:∃f fd,Meth K C m f/\Fun K m qual st f fd/\Binds K fd ps []
structure nr(P:Program)(w:World)(K:Fg)(mg:Str->Option Value)(base:Heap)(C:Addr)(m:Str)(k:Nat)(ps:List Str)(sp:Sp):Prop where
  ex:∃f fd,Meth K C m f/\Binds K fd ps []/\FnOk P w K mg base (CX1 P w) k f fd ps sp
theorem zj9{P:Program}{w:World}{K:Fg}{mg:Str->Option Value}{base:Heap}{C:Addr}{m qual:Str}{st:Stmt}{N ps:List Str}{k:Nat}{sp:Sp}(D:MtIn K C m qual st ps)(S:zq N ps (zf st))(len:∀vs H Q E,sp vs H Q E->vs.length=ps.length)
    (hbody:∀(f:Addr) (cdv:Value) (A:Around) (outer:List Env) (s:Shared) (H:Hp) (vs:List V) (Q:VK) (E:XK),Room k (A.deeper (envOfC qual (zf st) s.heap.objs.size f cdv))->sp vs H Q E ->
      ∃t,PSs (cxOf (CX1 P w) P w K mg base N qual (zf st) f cdv A outer s H E) (yg st) t/\t { nx:=fun _ H'=>Q .non H',rt:=Q } (start N vs) H):nr P w K mg base C m (k+1) ps sp:=by
  obtain⟨f,fd,hm,F,hb⟩:=D.ex;refine⟨f,fd,hm,hb,?_⟩;obtain⟨oc,od,kV,doc,pm,an,cdv,ct,osl,rfl,lk,hcd⟩:=F.ex;exact zfr lk hcd S len (hbody f cdv)
structure MkAt(P:Program)(w:World)(K:Fg)(mg:Str->Option Value)(base:Heap)(name:Str)(C:Addr)(k:Nat)(ps:List Str)(sp:Sp):Prop where
  ex:∃f fd,Mk K C f/\mg name=some (.ref C)/\Binds K fd ps []/\FnOk P w K mg base CX0 k f fd ps sp
structure ug(K:Fg)(mg:Str->Option Value)(name:Str)(C:Addr)(qual:Str)(st:Stmt)(ps:List Str)(fs:List Str):Prop where
  ex:∃f fd,Mk K C f/\mg name=some (.ref C)/\Fun K "__init__" qual st f fd/\Binds K fd ps []
  cl:Cls K C
  no:∀f∈fs,NoAttr K C f
theorem zlt{P:Program}{w:World}{K:Fg}{mg:Str->Option Value}{base:Heap}{name qual:Str}{C:Addr}{st:Stmt}{N ps fs:List Str}{k:Nat}{sp:Sp}(D:ug K mg name C qual st ps fs)(S:zq N ps (zf st))(len:∀vs H Q E,sp vs H Q E->vs.length=ps.length)
    (hbody:∀(f:Addr) (cdv:Value) (A:Around) (outer:List Env) (s:Shared) (H:Hp) (vs:List V) (Q:VK) (E:XK),Room k (A.deeper (envOfC qual (zf st) s.heap.objs.size f cdv))->sp vs H Q E ->
      ∃t,PSs (cxOf CX0 P w K mg base N qual (zf st) f cdv A outer s H E).nox (yg st) t/\t { nx:=fun _ H'=>Q .non H',rt:=Q } (start N vs) H):MkAt P w K mg base name C (k+1) ps sp:=by
  obtain⟨f,fd,hM,hm,F,hb⟩:=D.ex;exact⟨f,fd,hM,hm,hb,F.ok S len (hbody f)⟩
section
variable{X:Cx}{x m:Str}{C:Addr}{k:Nat}{ps:List Str}{sp:Sp}{p apos pos:Pos}{o e:Expr}{es:List Expr}{t:TA}{ta:TE}
theorem zhf (F:MkAt X.prog X.w X.K X.mg X.base x C k ps sp) (hr:Room (k+1) X.A) (hg:Gl X x) (hdb:(x==("__debug__" : Str))=false:=by decide):PE X (.Call (.Name x p) [] [] pos) (zb0 C sp [] E0 tNil):=by
  obtain⟨f,fd,hM,hm,hb,G⟩:=F.ex;exact zjx hM G hr hg hm hb .nil pass0 hdb
theorem on{pl:Sem Bool}(he:PE X o ta)(c:Cls X.K C)(F:nr X.prog X.w X.K X.mg X.base C m k ps sp)(hr:Room k X.A)(ha:PA X (e::es) t)
    (hst:starEach (e::es) X.env=(false,eval e X.env)::starEach es X.env:=by rfl) (hpl:(backTo pos (starEach es X.env)).any (·.1)=false:=by rfl)
    (ht:eval (.Call (.Attribute o m apos) (e::es) [] pos) X.env=(do
      let ov <-eval o X.env
      standAt apos.atName
      let (f,first) <-holding [ov] (getMethod ov m pl)
      callWith pos f first (backTo pos (starEach (e::es) X.env)) (backToKw pos (keywordEach [] X.env))):=by rfl) :
    PE X (.Call (.Attribute o m apos) (e::es) [] pos) (zb2 C m sp [] E0 ta t):=by
  obtain⟨f,fd,hm,hb,G⟩:=F.ex;exact zlw he c hm G hr hb .nil pass1 ha hst hpl ht
def zjc(C:Addr)(m:Str)(sp:Sp)(J:St->Value->Hp->Prop)(ta:TE)(t:TA):TE:=fun σ H Q=>ta σ H fun x H1=>∃a dx fs,x=.ref a/\H1 a=some (.ins C dx fs)/\fs.lookup m=none /\
  t σ H1 fun vs H2=>sp (x::vs) H2 Q fun c _ H'=>J σ c H'
theorem zma{J:St->Value->Hp->Prop}{σ:St}{H:Hp}{Q:VK}:zjc C m sp J ta t σ H Q=ta σ H fun x H1=>∃a dx fs,x=.ref a/\H1 a=some (.ins C dx fs)/\fs.lookup m=none/\t σ H1 fun vs H2=>sp (x::vs) H2 Q fun c _ H'=>J σ c H':=rfl
theorem e_meth{E:XK}{σ:St}{H:Hp}{Q:VK}:zb2 C m sp [] E ta t σ H Q=ta σ H fun x H1=>∃a dx fs,x=.ref a/\H1 a=some (.ins C dx fs)/\fs.lookup m=none/\t σ H1 fun vs H2=>sp (x::vs) H2 Q E:=by
  simp only[zb2,ZP]
theorem e_make{E:XK}{σ:St}{H:Hp}{Q:VK}:zb0 C sp [] E t σ H Q=t σ H fun vs H1=>∀x dx,H1 x=none->H1 dx=none->dx≠x->sp (.ref x::vs) (upd (upd H1 dx (.own x)) x (.ins C dx [])) (fun v H2=>v=.non/\Q (.ref x) H2) E:=by
  simp only[zb0,ZP]
theorem e_fld{K:Fg}{f:Str}{σ:St}{H:Hp}{Q:VK}:tFld K ta f σ H Q=ta σ H fun x H1=>∃a C dx fs v,x=.ref a/\H1 a=some (.ins C dx fs)/\Cls K C/\NoAttr K C f/\fs.lookup f=some v/\Q v H1:=rfl
theorem zh7{pl:Sem Bool}{J:St->Value->Hp->Prop}(he:PE X o ta)(c:Cls X.K C)(F:nr X.prog X.w X.K X.mg X.base C m k ps sp)(hr:Room k X.A)(hx:bg X J)(ha:PA X (e::es) t)
    (hst:starEach (e::es) X.env=(false,eval e X.env)::starEach es X.env:=by rfl) (hpl:(backTo pos (starEach es X.env)).any (·.1)=false:=by rfl)
    (ht:eval (.Call (.Attribute o m apos) (e::es) [] pos) X.env=(do
      let ov <-eval o X.env
      standAt apos.atName
      let (f,first) <-holding [ov] (getMethod ov m pl)
      callWith pos f first (backTo pos (starEach (e::es) X.env)) (backToKw pos (keywordEach [] X.env))):=by rfl) :
    PE X (.Call (.Attribute o m apos) (e::es) [] pos) (zjc C m sp J ta t):=by
  obtain⟨f,fd,hm,hb,G⟩:=F.ex;intro pins s σ H Q I h;refine PySem.W.methodCall_KW (pl:=pl) (thn (he pins s σ H _ I h) fun u s1 ⟨x,H1,I1,rx,a,dx,fs,ex,ea,l,q⟩ => ?_) ht;subst ex;obtain rfl:u=Value.ref a:=rx;refine cz I1 ea c hm l ?_;refine PySem.W.callWith_K (first:=[.ref a]) (h₀:=X.base) I.ok.mod.kin hm.kp (thn (ha pos pins s1 σ H1 _ I1 q) fun us s2 ⟨vs,H2,I2,r,q2⟩=>⟨I2.kIn,?_⟩) hst hpl;have r':Vals (V.ref a::vs) (Value.ref a::us):=.cons rfl r;have hl:(Value.ref a::us++[]).length=ps.length:=by rw[ZP,<-r'.length];exact G.len _ _ _ _ q2
  refine wpAny_call (codeAny_mono (G.run X.A X.stack s2 H2 ⟨Value.ref a::us,[]⟩ (Value.ref a::us) (V.ref a::vs) Q _ hr I2.env0 (by have:=hb s2 (Value.ref a::us) I2.kIn hl;rw[ZP]at this;exact this) r' q2) fun r' s' hq => ?_)
  cases r' with
  | error e=>exact hx pins σ H2 s2 e s' I2 hq
  | ok fl =>
    cases fl with
    | ret u=>exact I2.after hq
    | next=>exact False.elim hq
    | brk=>exact False.elim hq
    | cont=>exact False.elim hq
end
end L2
namespace L2
open PySem PySem.Spec PyProof.Rows
def kg(P:Program)(w:World)(K:Fg)(mg:Str->Option Value)(ns:List (Str×Str))(p:Addr):Prop :=
  (p==sysModules)=false/\(∀n∈ns,(mg n.2).isSome=true)/\∀h:Heap,K.In h->∃kvs:List (Key×Value),h.DictOf (wk P w) p kvs/\∀z:Str,valueAt kvs (.inr z)=(ns.lookup z).bind mg
def lq(P:Program)(w:World)(K:Fg)(mg:Str->Option Value)(name:Str)(ns:List (Str×Str)):Prop:=∃p,mg name=some (.ref p)/\kg P w K mg ns p
section
variable{X:Cx}{ns:List (Str×Str)}
def tGlD(P:Program)(w:World)(K:Fg)(mg:Str->Option Value)(ns:List (Str×Str)):TE:=fun _ H Q=>∀p,kg P w K mg ns p->Q (.ref p) H
theorem e_glD{P:Program}{w:World}{K:Fg}{mg:Str->Option Value}{σ:St}{H:Hp}{Q:VK}:tGlD P w K mg ns σ H Q=∀p,kg P w K mg ns p->Q (.ref p) H:=rfl
theorem mx {x:Str} {pos:Pos} (hg:Gl X x) (hm:lq X.prog X.w X.K X.mg x ns) (hd:(x==("__debug__" : Str))=false:=by decide):PE X (.Name x pos) (tGlD X.prog X.w X.K X.mg ns):=by
  obtain⟨p,hm,hs⟩:=hm;intro pins s σ H Q I h;exact xh (v:=.ref p) hg hm rfl hd pins s σ H Q I (h p hs)
theorem cn:∀{ns:List (Str×Str)} {z n:Str},ns.lookup z=some n->∃m∈ns,m.2=n
  | (a,b)::ns,z,n,h=>by
    rw[ZF]at h
    split at h
    . exact⟨_,ZA,Option.some.inj h⟩
    . obtain⟨m,h1,h2⟩:=cn h
      exact⟨m,Zv _ h1,h2⟩
theorem bc{P:Program}{w:World}{K:Fg}{mg:Str->Option Value}{p:Addr}(h:kg P w K mg ns p)(z:Str):((ns.lookup z).bind mg).isSome=(ns.lookup z).isSome:=by
  cases e:ns.lookup z with
  | none=>rfl
  | some n =>
    obtain⟨m,h1,rfl⟩:=cn e;exact h.2.1 m h1
def rInG(P:Program)(w:World)(K:Fg)(mg:Str->Option Value)(neg:Bool):R2:=fun y x H Q=>∃a z ns,x=.ref a/\y=.str z/\kg P w K mg ns a/\Q (.bl (neg ^^ (ns.lookup z).isSome)) H
theorem e_inG{P:Program}{w:World}{K:Fg}{mg:Str->Option Value}{neg:Bool}{y x:V}{H:Hp}{Q:VK}:rInG P w K mg neg y x H Q=∃a z ns,x=.ref a/\y=.str z/\kg P w K mg ns a/\Q (.bl (neg ^^ (ns.lookup z).isSome)) H:=rfl
theorem op_inG:OpR X (compareOp .In) (rInG X.prog X.w X.K X.mg false):=by
  intro pins s σ H x y v u Q I rx ry h;obtain⟨a,z,ns,rfl,rfl,g,q⟩:=h;cases ry;obtain⟨kvs,dd,hv⟩:=g.2.2 _ I.kIn;refine wpAny_in_of (ff (k:=.inr z) rx) g.1 dd.mapOf ?_;rw[hv,bc g];exact⟨.bl (ns.lookup z).isSome,H,I.tok _,rfl,by simpa using q⟩
theorem zaw:OpR X (compareOp .NotIn) (rInG X.prog X.w X.K X.mg true):=by
  intro pins s σ H x y v u Q I rx ry h;obtain⟨a,z,ns,rfl,rfl,g,q⟩:=h;cases ry;obtain⟨kvs,dd,hv⟩:=g.2.2 _ I.kIn;refine wpAny_notIn_of (ff (k:=.inr z) rx) g.1 dd.mapOf ?_;rw[hv,bc g];exact⟨.bl (!(ns.lookup z).isSome),H,I.tok _,rfl,by simpa using q⟩
def tGetG(P:Program)(w:World)(K:Fg)(mg:Str->Option Value)(td ty:TE):TE:=fun σ H Q=>td σ H fun x H1=>ty σ H1 fun y H2=>∃a z n f ns,x=.ref a/\y=.str z/\kg P w K mg ns a/\ns.lookup z=some n/\mg n=some (.ref f)/\Q (.ref f) H2
theorem e_getG{P:Program}{w:World}{K:Fg}{mg:Str->Option Value}{td ty:TE}{σ:St}{H:Hp}{Q:VK}:tGetG P w K mg td ty σ H Q=td σ H fun x H1=>ty σ H1 fun y H2=>∃a z n f ns,x=.ref a/\y=.str z/\kg P w K mg ns a/\ns.lookup z=some n/\mg n=some (.ref f)/\Q (.ref f) H2:=rfl
theorem zfo{o i:Expr}{pos:Pos}{td ty:TE}(ho:PE X o td)(hi:PE X i ty)(hs:NoSl i):PE X (.Subscript o i pos) (tGetG X.prog X.w X.K X.mg td ty):=by
  intro pins s σ H Q I h;refine ze4 PySem.F.slot_dict_getitem.lookup hs (thn (ho pins s σ H _ I h) fun u s1 ⟨x,H1,I1,rx,q1⟩=>thn (hi pins s1 σ H1 _ I1 q1) fun iv s2 ⟨y,H2,I2,ry,a,z,n,f,ns,ex,ey,g,l,m,q2⟩ => ?_);subst ex ey;obtain rfl:u=Value.ref a:=rx;obtain⟨kvs,dd,hv⟩:=g.2.2 _ I2.kIn;have hw:valueAt kvs (.inr z)=some (.ref f):=by rw[hv,l];exact m
  exact⟨dd.typeIs,wpAny_getItem_of (ff (k:=.inr z) ry) dd.mapOf hw ⟨.ref f,H2,I2.tok _,rfl,q2⟩⟩
end
section
variable{X:Cx}{k:Nat}{ps:List Str}{pos p1:Pos}{e o i:Expr}{es:List Expr}{t:TA}{tf:TE}
def FnRX(P:Program)(w:World)(K:Fg)(mg:Str->Option Value)(base:Heap)(f:Addr)(k:Nat)(ps:List Str)(sp:Sp):Prop:=∃fd,PySem.W.keepIn K (.ref f)=true/\Binds K fd ps []/\FnOk P w K mg base (CX1 P w) k f fd ps sp
def zh6(P:Program)(w:World)(K:Fg)(mg:Str->Option Value)(base:Heap)(k:Nat)(ps:List Str)(J:St->Value->Hp->Prop)(tf:TE)(t:TA):TE:=fun σ H Q=>tf σ H fun v H1=>∃f sp,v=.ref f/\FnRX P w K mg base f k ps sp/\t σ H1 fun vs H2=>sp vs H2 Q fun c _ H'=>J σ c H'
theorem zl5{P:Program}{w:World}{K:Fg}{mg:Str->Option Value}{base:Heap}{J:St->Value->Hp->Prop}{σ:St}{H:Hp}{Q:VK}:zh6 P w K mg base k ps J tf t σ H Q=tf σ H fun v H1=>∃f sp,v=.ref f/\FnRX P w K mg base f k ps sp/\t σ H1 fun vs H2=>sp vs H2 Q fun c _ H'=>J σ c H':=rfl
theorem zc7(k:Nat)(ps:List Str){J:St->Value->Hp->Prop}(hf:PE X (.Subscript o i p1) tf)(hr:Room k X.A)(hx:bg X J)(ha:PA X (e::es) t)(he:starEach (e::es) X.env=(false,eval e X.env)::starEach es X.env:=by rfl)
    (hpl:(backTo pos (starEach es X.env)).any (·.1)=false:=by rfl):PE X (.Call (.Subscript o i p1) (e::es) [] pos) (zh6 X.prog X.w X.K X.mg X.base k ps J tf t):=by
  intro pins s σ H Q I h
  show wpAny _ _ (eval (.Call (.Subscript o i p1) (e::es) [] pos) X.env) _ _ s
  rw[show eval (.Call (.Subscript o i p1) (e::es) [] pos) X.env=(do callWith pos (<-eval (.Subscript o i p1) X.env) [] (backTo pos (starEach (e::es) X.env)) (backToKw pos (keywordEach [] X.env))) from rfl];refine wpAny_bind (thn (hf pins s σ H _ I h) fun u s0 ⟨v,H0,I0,rv,f,sp,ev,⟨fd,hk,hb,G⟩,q0⟩ => ?_);subst ev;obtain rfl:u=Value.ref f:=rv;refine PySem.W.callWith_K (h₀:=X.base) I.ok.mod.kin hk (thn (ha pos pins s0 σ H0 _ I0 q0) fun us s1 ⟨vs,H1,I1,r,q⟩=>⟨I1.kIn,?_⟩) he hpl;have hl:(us++[]).length=ps.length:=by rw[ZP,<-r.length];exact G.len _ _ _ _ q
  refine wpAny_call (codeAny_mono (G.run X.A X.stack s1 H1 ⟨us,[]⟩ us vs Q _ hr I1.env0 (by have:=hb s1 us I1.kIn hl;rw[ZP]at this;exact this) r q) fun r' s' hq => ?_)
  cases r' with
  | error e=>exact hx pins σ H1 s1 e s' I1 hq
  | ok fl =>
    cases fl with
    | ret u=>exact I1.after hq
    | next=>exact False.elim hq
    | brk=>exact False.elim hq
    | cont=>exact False.elim hq
end
end L2
namespace L2
open PySem PySem.Spec PyProof.Rows
def entD(w:World)(k:Str×Nat×Value):DictEntry:=⟨PyData.keyHash w.params k.1,.str k.1 k.2.1,k.2.2⟩
theorem zew{P:Program}{w:World}:∀ks:List (Str×Nat×Value),Pairs (wk P w) (ks.map (entD w)) (ks.map fun k=>((.inr k.1:Key),k.2.2))
  | []=>.nil
  | k::ks=>.cons (ky P w k.1 k.2.1) rfl (zew ks)
theorem zbb{mg:Str->Option Value}(z:Str):∀{ns:List (Str×Str)} {ks:List (Str×Nat×Value)},ns.map (fun n=>n.1)=ks.map (fun k=>k.1)->ns.map (fun n=>mg n.2)=ks.map (fun k=>some k.2.2)->valueAt (ks.map fun k=>((.inr k.1:Key),k.2.2)) (.inr z)=(ns.lookup z).bind mg
  | [],[],_,_=>rfl
  | [],_::_,h,_=>by simp at h
  | _::_,[],h,_=>by simp at h
  | n::ns,k::ks,h1,h2=>by
    simp only[ZM,List.cons.injEq]at h1 h2;have ih:=zbb (mg:=mg) z h1.2 h2.2;obtain⟨a,b⟩:=n;simp only at h1 h2;rw[valueAt,ZM,Ye,zij,ZF]
    by_cases e:k.1=z
    . have e2:(z==a)=true:=by rw[h1.1,e];exact beq_self_eq_true z
      rw[decide_eq_true e,e2]
      show some k.2.2=mg b
      exact h2.1.symm
    . have e2:(z==a)=false:=by rw[h1.1];exact beq_eq_false_iff_ne.mpr (Ne.symm e)
      rw[decide_eq_false e,e2];exact ih
theorem zeu:∀{xs:List Str},xs.Nodup->(xs.map fun x=>(.inr x:Key)).Nodup
  | [],_=>List.nodup_nil
  | x::xs,h=>by
    rw[Yc]at h;rw[ZM,Yc];refine⟨fun hm => ?_,zeu h.2⟩;obtain⟨y,hy,e⟩:=Zp.mp hm;exact h.1 (Sum.inr.inj e▸hy)
theorem zg9{P:Program}{w:World}{K:Fg}{h:Heap}{mg:Str->Option Value}(X:K.In h)(G:h.Ns mainGlobals mg){name:Str}{p:Addr}{es:Array DictEntry}{n:Nat}{ks:List (Str×Nat×Value)}{ns:List (Str×Str)}
    (e:PySem.W.nsIn K mainGlobals name=some (some (.ref p))) (l:K.lookup p=some ⟨.type "dict", none,.dict es n,#[]⟩) (he:es.toList=ks.map (entD w)) (hS:(p==sysModules)=false) (hx:ns.map (fun n=>n.1)=ks.map (fun k=>k.1)) (nd:(ns.map fun n=>n.1).Nodup) (hv:ns.map (fun n=>mg n.2)=ks.map (fun k=>some k.2.2)):lq P w K mg name ns:=by
  refine⟨p,PySem.W.mg_of X G e,hS,fun m hm => ?_,fun h' X'=>⟨ks.map fun k=>((.inr k.1:Key),k.2.2),⟨_,es,n,X' _ _ l,⟨rfl,rfl,rfl⟩,rfl,fun d hd => ?_,?_,?_⟩,fun z=>zbb z hx hv⟩⟩
  . have:mg m.2∈ns.map fun n=>mg n.2:=Zp.mpr ⟨m,hm,rfl⟩
    rw[hv]at this;obtain⟨k,_,e⟩:=Zp.mp this;rw[<-e];rfl
  . have:d∈es.toList:=Array.mem_def.mp hd
    rw[he]at this;obtain⟨k,_,rfl⟩:=Zp.mp this;exact⟨.inr k.1,ky P w k.1 k.2.1,rfl⟩
  . rw[he]
    exact zew ks
  . rw[Yz]
    show(ks.map ((fun x=>(.inr x:Key))∘fun k=>k.1)).Nodup
    rw[<-Yz];exact zeu (hx▸nd)
section
variable{K:Fg}{h:Heap}{mg:Str->Option Value}{name m qual:Str}{st:Stmt}{C f:Addr}{oc:Value}{od an:Option Addr}{osl:Array (Option Value)}{kV doc pm cdv ct:Value}{ps fs:List Str}
theorem mt_mk(X:K.In h)(i:PySem.W.findIn K (.ref C) m=some (some (.ref f)))(fn:PySem.W.isFn K (.ref f)=true)(l:K.lookup f=some ⟨oc,od,.func (PySem.W.fnOf m qual (wx st) (yg st) (zf st) .none kV doc pm an cdv ct),osl⟩)
    (c:PySem.W.codeIn K cdv qual=true) (k:PySem.W.keepIn K (.ref f)=true)
    (hb:∀(kV doc pm:Value) (an:Option Addr) (cdv ct:Value) (us:List Value),us.length=ps.length->bindArgs (PySem.W.fnOf m qual (wx st) (yg st) (zf st) .none kV doc pm an cdv ct) ⟨us,[]⟩=pure (ps.zip us)):MtIn K C m qual st ps :=
  ⟨f,_,⟨i,fn,k⟩,je l c k,(je (st:=st) l c k).binds hb⟩
theorem own_mk (X:K.In h) (G:h.Ns mainGlobals mg) (a:PySem.W.nsIn K mainGlobals name=some (some (.ref C))) (mk:PySem.W.makesIn K C=true) (i:PySem.W.findIn K (.ref C) "__init__" = some (some (.ref f))) (fn:PySem.W.isFn K (.ref f)=true) (kc:PySem.W.keepIn K (.ref C)=true)
    (l:K.lookup f=some ⟨oc,od,.func (PySem.W.fnOf "__init__" qual (wx st) (yg st) (zf st) .none kV doc pm an cdv ct),osl⟩) (c:PySem.W.codeIn K cdv qual=true) (k:PySem.W.keepIn K (.ref f)=true)
    (hb:∀(kV doc pm:Value) (an:Option Addr) (cdv ct:Value) (us:List Value),us.length=ps.length->bindArgs (PySem.W.fnOf "__init__" qual (wx st) (yg st) (zf st) .none kV doc pm an cdv ct) ⟨us,[]⟩=pure (ps.zip us))
    (pg:PySem.W.plainGet K C Str.empty=true) (hd:PySem.W.hasDictIn K C=true) (po:PySem.W.plainOver K C=true) (sa:PySem.W.findIn K (.ref C) "__setattr__" = some (some (.builtin "object.__setattr__"))) (no:∀f∈fs,PySem.W.findIn K (.ref C) f=some none):ug K mg name C qual st ps fs :=
  ⟨⟨f,_,⟨mk,i,fn,kc⟩,PySem.W.mg_of X G a,je l c k,(je (st:=st) l c k).binds hb⟩,⟨pg,hd,po,sa⟩,no⟩
end
theorem e_sfld{K:Fg}{ta tv:TE}{f:Str}{D:Ends}{σ:St}{H:Hp}:sFld K ta tv f D σ H=(tv σ H fun y H1=>ta σ H1 fun x H2=>∃a C dx fs,x=.ref a/\H2 a=some (.ins C dx fs)/\Cls K C/\NoAttr K C f/\fs.length<1000/\D.nx σ (upd H2 a (.ins C dx (putF f y fs)))):=rfl
end L2
namespace L2
theorem cxMg{CX:CXT}{P:PySem.Program}{w:PySem.World}{K:Fg}{mg:PySem.Str->Option PySem.Value}{base:PySem.Heap}{N:List PySem.Str}{qual:PySem.Str}{scope:PySem.Scope}{f:PySem.Addr}{cd:PySem.Value}{A:PySem.Around}{outer:List PySem.Env}{s:PySem.Shared}{H:Hp}{E:XK}:(cxOf CX P w K mg base N qual scope f cd A outer s H E).mg=mg:=rfl
end L2
namespace L2
open PySem PySem.Spec PyProof.Rows
theorem zao{x y:Str}{c d k:Nat}{r:List Nat}(hy:y.cps.toList=c::d::r)(h:StrLaws.At x y x.length k):x.cps.toList[k+1]? = some d:=by
  have h2:=h.2;rw[StrLaws.subAt_eq]at h2;have h3:(x.cps.toList.drop k).take y.length=c::d::r:=by rw[<-hy];exact eq_of_beq h2
  have h4:((x.cps.toList.drop k).take y.length)[1]? = some d:=by rw[h3];rfl
  have hly:1<y.length:=by
    have:y.cps.toList.length=y.length:=by simp[Str.length]
    rw[<-this,hy];simp
  rw[Yy hly,ZQ]at h4;exact h4
theorem eg{y:Str}{c d:Nat}{r:List Nat}(hy:y.cps.toList=c::d::r)(hcd:d≠c)(x:Str):∀(ps:List Str) (cuts:List Nat) (a f:Nat),ps≠[]->(∀p∈ps,d∉p.cps.toList)->a<=x.length->x.cps.toList.drop a=(Str.join y ps).cps.toList->StrLaws.ChainG x y x.length a cuts f->(∀k,f<=k->¬StrLaws.At x y x.length k)->StrLaws.partsFrom x y.length a cuts=ps
  | [],_,_,_,h,_,_,_,_,_=>absurd rfl h
  | [p],cuts,a,f,_,hf,ha,hd,hG,hn=>by
    have hl:x.cps.toList.length=x.length:=by simp[Str.length]
    have hd':x.cps.toList.drop a=p.cps.toList:=hd
    cases cuts with
    | nil =>
      show [Builtin.Str.strSub x a x.length]=[p]
      congr 1
      apply Str.ext'
      apply ZX.mp
      rw[StrLaws.strSub_toList,hd',ZG];rw[<-hd',ZR,hl];omega
    | cons k rest =>
      exfalso
      have hc:=zao hy hG.2.1;have:(x.cps.toList.drop a)[k+1-a]? = some d:=by rw[ZQ,show a+(k+1-a)=k+1 by have:=hG.1;omega];exact hc
      rw[hd']at this;exact hf p ZA (Zi this)
  | p::q::ps,cuts,a,f,_,hf,ha,hd,hG,hn=>by
    have hl:x.cps.toList.length=x.length:=by simp[Str.length]
    have hly:y.cps.toList.length=y.length:=by simp[Str.length]
    have hlp:p.cps.toList.length=p.length:=by simp[Str.length]
    have hd':x.cps.toList.drop a=p.cps.toList++(y.cps.toList++(Str.join y (q::ps)).cps.toList):=by
      rw[hd]
      show(p++y++Str.join y (q::ps)).cps.toList=_
      simp only[Str.cps_append,Yu,ZV]
    have hA:=zaa hy hd';rw[hlp]at hA
    cases cuts with
    | nil =>
      have e:f=a:=hG;exact absurd hA (hn _ (by omega))
    | cons k rest =>
      obtain⟨g1,g2,g3,g4⟩:=hG;have hc:=zao hy g2;have h1:k<=a+p.length:=ZD.mp fun z=>g3 _ (Nat.le_add_right _ _) z hA
      have h2:¬k-a<p.length:=fun z=>by
        have h5:(x.cps.toList.drop a)[k+1-a]? = some d:=by rw[ZQ,show a+(k+1-a)=k+1 by omega];exact hc
        rw[hd']at h5
        by_cases z2:k+1-a<p.length
        . rw[Zg (by rw[hlp];exact z2)]at h5
          exact hf p ZA (Zi h5)
        . rw[Zf (by rw[hlp];omega),hlp,show k+1-a-p.length=0 by omega,hy]at h5
          exact hcd (Option.some.inj h5).symm
      have ek:k=a+p.length:=by omega
      subst ek;have hk:=g2.1
      have ih:=eg hy hcd x (q::ps) rest (a+p.length+y.length) f (by simp) (fun z hz=>hf z (Zv _ hz)) (by omega) (by
        rw[Nat.add_assoc,<-List.drop_drop,hd',<-ZV];have e2:(p.cps.toList++y.cps.toList).length=p.length+y.length:=by rw[Zo,hlp,hly]
        rw[<-e2,YJ]) g4 hn
      show Builtin.Str.strSub x a (a+p.length)::StrLaws.partsFrom x y.length (a+p.length+y.length) rest=p::q::ps
      rw[ih]
      congr 1
      apply Str.ext'
      apply ZX.mp
      rw[StrLaws.strSub_toList,hd',Nat.add_sub_cancel_left,<-hlp,YK]
theorem k7{y:Str}{c d:Nat}{r:List Nat}(hy:y.cps.toList=c::d::r)(hcd:d≠c)(hk:Builtin.Str.strKind y=1){ps:List Str}(h0:ps≠[])(hf:∀p∈ps,d∉p.cps.toList):Txt.split (Str.join y ps) y=ps:=by
  generalize hx:Str.join y ps=x;have hly:y.cps.toList.length=y.length:=by simp[Str.length]
  have h1:1<=y.length:=by rw[<-hly,hy];simp
  obtain⟨f,hG,hn⟩:=StrLaws.occ_tight x y h1;have key:=eg hy hcd x ps _ 0 f h0 hf (ZE _) (by rw[Yh,hx]) hG hn;unfold Txt.split
  split
  . rename_i hc
    rw[Bool.or_eq_true,decide_eq_true_eq,decide_eq_true_eq]at hc
    rcases hc with hc | hc
    . match ps,h0,hx with
      | [p],_,hx=>rw[<-hx];rfl
      | p::q::ps,_,hx =>
        exfalso
        have:(p++y++Str.join y (q::ps))=x:=hx;have e:=congrArg Str.length this;rw[Str.length_append,Str.length_append]at e;omega
    . have:=zcb x
      omega
  . split
    . rename_i he
      have e0:=List.isEmpty_iff.mp he;rw[e0]at key;have:[Builtin.Str.strSub x 0 x.length]=ps:=key;rw[StrLaws.sub_whole]at this;exact this
    . rw[StrLaws.partsBetween_eq]
      exact key
theorem zli{a y b:Str}{c:Nat}(hy:y.cps.toList=[c])(ha:c∉a.cps.toList):Txt.partition (a++y++b) y=(a,y,b):=by
  have hx:(a++y++b).cps.toList=a.cps.toList++(y.cps.toList++b.cps.toList):=by simp only[Str.cps_append,Yu,ZV]
  have hla:a.cps.toList.length=a.length:=by simp[Str.length]
  have hly:y.length=1:=by
    have:y.cps.toList.length=y.length:=by simp[Str.length]
    rw[<-this,hy];rfl
  have h1:StrLaws.At (a++y++b) y (a++y++b).length (0+a.cps.toList.length):=zaa (r:=[]) hy (by rw[Yh,hx]);rw[Nat.zero_add,hla]at h1;have hd:=StrLaws.occ_head (a++y++b) y 1 (Zm _)
  rcases hd with ⟨_,h0⟩ | ⟨i,r,e,hi,hb⟩
  . exact absurd h1 (h0 _)
  have ei:i=a.length:=by
    rcases Nat.lt_trichotomy i a.length with z | z | z
    . exfalso
      have:=dz hy hi;rw[hx,Zg (by omega)]at this;exact ha (Zi this)
    . exact z
    . exact absurd h1 (hb _ z)
  subst ei;unfold Txt.partition;rw[e];have hl:(a++y++b).length=a.length+1+b.length:=by rw[Str.length_append,Str.length_append,hly]
  have e1:Builtin.Str.strSub (a++y++b) 0 a.length=a:=by
    apply Str.ext'
    apply ZX.mp
    rw[StrLaws.strSub_toList,Yh,hx,Nat.sub_zero,<-hla,YK]
  have e2:Builtin.Str.strSub (a++y++b) (a.length+y.length) (a++y++b).length=b:=by
    apply Str.ext'
    apply ZX.mp
    have hlb:b.cps.toList.length=b.length:=by simp[Str.length]
    rw[StrLaws.strSub_toList,hx,<-ZV,hly,hl,show a.length+1=(a.cps.toList++y.cps.toList).length by rw[Zo,hla,hy];rfl,YJ,ZG (by rw[Zo,hla,hy,hlb];simp)]
  show(Builtin.Str.strSub (a++y++b) 0 a.length,y,Builtin.Str.strSub (a++y++b) (a.length+y.length) (a++y++b).length)=_
  rw[e1,e2]
end L2
namespace L2
open PySem PySem.Spec PyProof.Rows PySem.NumText
def figs(m:Nat):List Nat:=(Nat.toDigits 10 m).map Char.toNat
theorem va(m:Nat):AllDigits (figs m):=fun c hc=>by
  obtain⟨ch,hch,e⟩:=Zp.mp hc;rw[<-e];exact digit_range (Nat.isDigit_of_mem_toDigits (by decide) (by decide) hch)
theorem bw:∀(k m:Nat),1<=k->m<10^k->(Nat.toDigits 10 m).length<=k
  | 0,_,h,_=>by omega
  | k+1,m,_,hm=>by
    by_cases h:m<10
    . rw[Ym h]
      simp
    . have hm2:m % 10<10:=Nat.mod_lt m (by decide)
      have t:Nat.toDigits 10 (m/10)++Nat.toDigits 10 (m % 10)=Nat.toDigits 10 (10*(m/10)+m % 10):=YL (by decide) (by omega) hm2;rw[Nat.div_add_mod]at t;rw[<-t,Ym hm2,Zo]
      have hk:1<=k:=by
        rcases Nat.eq_zero_or_pos k with z | z
        . subst z;simp at hm;omega
        . exact z
      have:=bw k (m/10) hk (by rw[Nat.pow_succ]at hm;omega);simp;omega
theorem jz{k m:Nat}(hk:1<=k)(hm:m<10^k):(figs m).length<=k:=by
  rw[figs,Za];exact bw k m hk hm
theorem fe(m:Nat):figs m≠[]:=by
  intro e;have e2:=List.map_eq_nil_iff.mp e
  by_cases h:m<10
  . rw[Ym h]at e2
    cases e2
  . have hm2:m % 10<10:=Nat.mod_lt m (by decide)
    have t:Nat.toDigits 10 (m/10)++Nat.toDigits 10 (m % 10)=Nat.toDigits 10 (10*(m/10)+m % 10):=YL (by decide) (by omega) hm2;rw[Nat.div_add_mod]at t;rw[<-t,Ym hm2]at e2;simp at e2
theorem qu(m:Nat):(intS (m:Int)).cps.toList=figs m:=PySem.W.KIN.signs_num m
theorem jr(m:Nat):(intS (Int.negSucc m)).cps.toList=45::figs (m+1):=by
  rw[intS,signs_ofString]
  show("-" ++ Nat.repr (m+1)).toList.map Char.toNat=_
  rw[String.toList_append,Zn,Nat.toList_repr];rfl
theorem vt(x:Str):x.length=x.cps.toList.length:=by simp[Str.length]
theorem j1{n:Int}(h1 : -(10^61)<n)(h2:n<10^61):(intS n).length<=62:=by
  rw[vt]
  cases n with
  | ofNat m =>
    rw[show(Int.ofNat m)=((m:Nat):Int) from rfl,qu];have:=jz (k:=61) (m:=m) (by decide) (by have:((m:Nat):Int)<10^61:=h2;omega);omega
  | negSucc m =>
    rw[jr,ZL];have:=jz (k:=61) (m:=m+1) (by decide) (by omega);omega
theorem zgf{n:Int}(h1 : -(10^61)<n)(h2:n<10^61):PySem.intText? (intS n)=some n:=by
  have hl:=j1 h1 h2
  cases n with
  | ofNat m =>
    have e:=intText_digits (x:=intS (Int.ofNat m)) (by rw[show(Int.ofNat m)=((m:Nat):Int) from rfl,qu];exact va m) (by rw[show(Int.ofNat m)=((m:Nat):Int) from rfl,qu];exact fe m) (by omega);rw[show(intS (Int.ofNat m)).cps.toList=figs m from qu m,figs,PySem.W.KIN.val_back]at e;exact e
  | negSucc m =>
    have e:=intText_neg (x:=intS (Int.negSucc m)) (jr m) (va _) (fe _) (by omega);rw[figs,PySem.W.KIN.val_back]at e;rw[e];rfl
end L2
namespace L2
open PySem PySem.Spec PyProof.Rows
def jo(k:Nat)(z:Str):Str:=⟨(z.cps.toList.drop k).toArray⟩
theorem md(k:Nat)(z:Str):(jo k z).cps.toList=z.cps.toList.drop k:=by simp[jo]
theorem zj2(k len:Nat)(h:k<=len):Builtin.Str.strSliceIndices (some (k:Int)) none 1 len=(List.range (len-k)).map (k + ·):=by
  rw[<-sliceRange_one];unfold Builtin.Str.strSliceIndices;simp only[show ¬((k:Int)<0) by omega,if_false,show(1:Int) > 0 by decide,if_true];rw[show max (0:Int) (min (k:Int) (len:Int))=(k:Int) by omega]
section
variable{X:Cx}
def rSlF:V->Option Int->Option Int->Hp->VK->Prop:=fun x lo hi H Q=>∃(z:Str) (k:Nat),x=.str z/\lo=some (k:Int)/\hi=none/\z.length<=sizeLine/\k<=z.length/\Q (.str (jo k z)) H
theorem e_slF{x:V}{lo hi:Option Int}{H:Hp}{Q:VK}:rSlF x lo hi H Q=∃(z:Str) (k:Nat),x=.str z/\lo=some (k:Int)/\hi=none/\z.length<=sizeLine/\k<=z.length/\Q (.str (jo k z)) H:=rfl
theorem zl8:SlR X rSlF:=by
  intro pins s σ H x v vl vu lo hi sl Q I rx hs pl pu h;obtain⟨z,k,rfl,rfl,rfl,hz,hk,q⟩:=h;obtain⟨t,rfl⟩:=rx;cases pu
  obtain⟨u,rfl⟩:∃u,vl=partValue (some ((k:Int),u)):=by
    cases pl with
    | int i t=>exact⟨t,rfl⟩
  have hl:z.cps.toList.length=z.length:=by simp[Str.length]
  have pk:slicePicked z (some ((k:Int),u)) none none=(List.range (z.length-k)).map (k + ·):=zj2 k z.length hk;refine⟨"str", _,F.slot_str_getitem.lookup,rfl,wpAny_getItem_str_slice (l:=some ((k:Int),u)) (u:=none) (st:=none) hs rfl ?_⟩;unfold sliceMade;rw[pk]
  have ed:(⟨(((List.range (z.length-k)).map (k + ·)).filterMap (z.cps[·]?)).toArray⟩:Str)=jo k z:=by
    apply Str.ext'
    apply ZX.mp
    rw[md];have h:=StrLaws.picks z.cps.toList (z.length-k) k (by omega);rw[ZG (by rw[ZR,hl];omega)]at h
    simpa using h
  rw[ed]
  split
  . rename_i hc
    have e0:k=0\/z.length=0:=by
      simp at hc;omega
    have:jo k z=z:=by
      apply Str.ext'
      apply ZX.mp
      rw[md]
      rcases e0 with rfl | e0
      . rfl
      . have:z.cps.toList=[]:=ZZ.mp (by omega)
        rw[this];simp
    rw[this]at q;exact⟨.str z,H,I,⟨t,rfl⟩,q⟩
  . refine⟨?_,.str _,H,I.tok _,⟨_,rfl⟩,q⟩
    refine Zd ?_ hz;rw[vt,vt,md,ZR];omega
end
end L2
namespace L2
open PySem PySem.Spec PyProof.Rows
section
variable{X:Cx}
def zic(K:Fg):V->List V->Hp->VK->Prop:=fun x vs H Q=>∃sep b texts,x=.str sep/\vs=[.ref b]/\SqT K H b (texts.map V.str)/\JoinOk sep texts=true/\Q (.str (Txt.join sep texts)) H
theorem zln{K:Fg}{x:V}{vs:List V}{H:Hp}{Q:VK}:zic K x vs H Q=∃sep b texts,x=.str sep/\vs=[.ref b]/\SqT K H b (texts.map V.str)/\JoinOk sep texts=true/\Q (.str (Txt.join sep texts)) H:=rfl
theorem zc3:MtM X "str.join" (zic X.K):=by
  intro pins s σ H x vs v us Q I rx rv h;obtain⟨sep,b,texts,rfl,rfl,hs,hok,q⟩:=h;obtain⟨t,rfl⟩:=rx;obtain⟨u,rfl,ru⟩:=rv.one;cases ru;obtain⟨its,r,pl,hz⟩:=I.tuple hs;obtain⟨l,e1,e2⟩:=aq r;subst e1;subst e2;have hok':=hok;unfold JoinOk at hok';rw[Bool.not_eq_true']at hok';obtain⟨o,ho,hc,n,hd⟩:=pl;exact call_meets F.slot_str_join (typeIs_str _ _ _) F.entry_str_join (F.args_str_join_2 _ _) (meets_str_join_tuple sep t _ l hok') ⟨⟨o,n,ho,hc,hd⟩,post_join l ⟨joinFit_length hok',fun t' k=>⟨.str (Txt.join sep _),H,I.tok _,⟨_,rfl⟩,q⟩⟩⟩
end
end L2
namespace Mine
open PySem PySem.Spec PyProof.Rows L2
theorem yu{α β:Type}{g:α->β}{xs:List α}{i:Nat}{x:β}(h:(xs.map g)[i]? = some x):∃y,xs[i]? = some y/\g y=x:=by
  rw[Ze]at h
  cases e:xs[i]? with
  | none=>rw[e]at h;cases h
  | some y=>rw[e]at h;cases h;exact⟨y,rfl,rfl⟩
def zg:=And.intro @cxMg (And.intro @zln (And.intro @e_slF (And.intro @zly (And.intro @zkj (And.intro @e_strI (And.intro @zma (And.intro @e_meth (And.intro @e_make (And.intro @e_fld (And.intro @e_sfld (And.intro @e_glD (And.intro @e_inG (And.intro @e_getG (And.intro @zl5 (And.intro @e_slS (And.intro @e_way (And.intro @zk4 (And.intro @e_down (And.intro @e_intS (And.intro @e_var (And.intro @e_C (And.intro @e_op (And.intro @e_un (And.intro @e_rI (And.intro @e_rI0 (And.intro @e_rU (And.intro @e_rEq (And.intro @e_rNe (And.intro @e_ixL (And.intro @e_ixT (And.intro @e_set (And.intro @e_cat (And.intro @e_test (And.intro @e_B (And.intro @e_and (And.intro @e_or (And.intro @e_not (And.intro @e_andV (And.intro @e_orV (And.intro @e_notV (And.intro @e_ifE (And.intro @e_all (And.intro @e_next (And.intro @e_seq (And.intro @e_brk (And.intro @e_cnt (And.intro @e_drop (And.intro @e_ret (And.intro @e_retN (And.intro @e_ifS (And.intro @e_asg (And.intro @zkp (And.intro @e_setC (And.intro @e_augS (And.intro @e_ipI (And.intro @e_nil (And.intro @e_cons (And.intro @e_tup (And.intro @e_lst (And.intro @e_call (And.intro @e_CB (And.intro @e_BM (And.intro @e_app (And.intro @e_rng1 (And.intro @e_rng2 (And.intro @e_iL (And.intro @e_for (And.intro @e_comp (And.intro @cxK (And.intro @e_zip (And.intro @e_gTup (And.intro @e_gNil (And.intro @zk8 (And.intro @e_rep (And.intro @e_gSub (And.intro @e_slL (And.intro @e_tSl (And.intro @zjk (And.intro @e_part (And.intro @zlg (And.intro @e_BM0 (And.intro @zlp (And.intro @e_in (And.intro @e_enum (And.intro @e_minK (And.intro @zkw (And.intro @zkq (And.intro @zl2 (And.intro @e_try0 (And.intro @suK (And.intro @noxK (And.intro @tryK (And.intro @e_eqD (And.intro @e_inD (And.intro @e_iStr (And.intro @e_mulS (And.intro @e_ixS (And.intro @e_join (And.intro @e_iT (And.intro @e_iSeq (And.intro @e_tupL (And.intro @e_minL (And.intro @e_maxL (And.intro @zjw (And.intro @e_leS (And.intro @e_vI0 (And.intro @e_vI (And.intro @e_ints (And.intro @e_isB (And.intro @e_catH (And.intro @zjh (And.intro @e_slH (And.intro @e_slT (And.intro @zjj (And.intro @zjl (And.intro @e_inK (And.intro @e_setD (And.intro @zk6 (And.intro @e_dget (And.intro @e_zip3 (And.intro @e_BMT (And.intro @zkr (And.intro @zjy (@zko))))))))))))))))))))))))))))))))))))))))))))))))))))))))))))))))))))))))))))))))))))))))))))))))))))))))))))))))))))))))))))
def zh:=And.intro @ZL.{0} (And.intro @Yw.{0} (And.intro @Nat.zero_add (And.intro @YG.{0} (And.intro @List.replicate_zero.{0} (And.intro @List.drop_succ_cons.{0} (And.intro @Yh.{0} (And.intro @Int.zero_add (And.intro @List.getElem?_cons_zero.{0} (And.intro @List.getElem?_cons_succ.{0} (And.intro @YR.{0} (And.intro @List.set_cons_succ.{0} (And.intro @Option.some.injEq.{0} (And.intro @V.int.injEq (And.intro @V.ref.injEq (And.intro @V.bl.injEq (And.intro @V.ty.injEq (And.intro @V.str.injEq (And.intro @List.cons.injEq.{0} (And.intro @ZP.{0} (And.intro @ZO.{0} (And.intro @ZN.{0} (And.intro @exists_eq.{1} (And.intro @exists_eq'.{1} (And.intro @exists_eq_left.{1} (And.intro @exists_eq_left'.{1} (And.intro @exists_and_left.{1} (And.intro @exists_and_right.{1} (And.intro @and_assoc (And.intro @true_and (@and_true))))))))))))))))))))))))))))))
def zks(s:Stmt):List Stmt:=match s with
  | .ClassDef _ _ _ b _ _ _ _ _ _ _=>b
  | _=>[]
def top(i:Nat):Stmt:=if i<1000 then PySem.Challenge.pw_trueword_k72_houses_and_best_said.main.body.getD i (.Pass ⟨0,0,0,0⟩) else(zks (PySem.Challenge.pw_trueword_k72_houses_and_best_said.main.body.getD (i % 1000) (.Pass ⟨0,0,0,0⟩))).getD (i/1000-1) (.Pass ⟨0,0,0,0⟩)
abbrev mf:Stmt:=top 13
theorem zdv:zq ["thing"] ["thing"] (zf mf):=⟨rfl,rfl,rfl,by decide +kernel,rfl,by decide +kernel,by decide +kernel⟩
abbrev qc:Stmt:=top 14
theorem zbr:zq ["thing"] ["thing"] (zf qc):=⟨rfl,rfl,rfl,by decide +kernel,rfl,by decide +kernel,by decide +kernel⟩
abbrev tw:Stmt:=top 15
theorem ay:zq ["thing", "width"] ["thing", "width"] (zf tw):=⟨rfl,rfl,rfl,by decide +kernel,rfl,by decide +kernel,by decide +kernel⟩
abbrev l6:Stmt:=top 24
theorem zgl:zq ["thing"] ["thing"] (zf l6):=⟨rfl,rfl,rfl,by decide +kernel,rfl,by decide +kernel,by decide +kernel⟩
abbrev q8:Stmt:=top 25
theorem zcu:zq ["thing", "most"] ["thing", "most"] (zf q8):=⟨rfl,rfl,rfl,by decide +kernel,rfl,by decide +kernel,by decide +kernel⟩
abbrev r6:Stmt:=top 26
theorem zbq:zq ["thing", "height", "width"] ["thing", "height", "width"] (zf r6):=⟨rfl,rfl,rfl,by decide +kernel,rfl,by decide +kernel,by decide +kernel⟩
abbrev kh:Stmt:=top 27
theorem zf3:zq ["thing", "width"] ["thing", "width"] (zf kh):=⟨rfl,rfl,rfl,by decide +kernel,rfl,by decide +kernel,by decide +kernel⟩
abbrev ka:Stmt:=top 28
theorem zgs:zq ["hand"] ["hand"] (zf ka):=⟨rfl,rfl,rfl,by decide +kernel,rfl,by decide +kernel,by decide +kernel⟩
abbrev ni:Stmt:=top 29
theorem zd7:zq ["hands"] ["hands"] (zf ni):=⟨rfl,rfl,rfl,by decide +kernel,rfl,by decide +kernel,by decide +kernel⟩
abbrev w6:Stmt:=top 30
theorem lj:zq ["hand"] ["hand"] (zf w6):=⟨rfl,rfl,rfl,by decide +kernel,rfl,by decide +kernel,by decide +kernel⟩
abbrev wv:Stmt:=top 31
theorem o7:zq ["hand"] ["hand"] (zf wv):=⟨rfl,rfl,rfl,by decide +kernel,rfl,by decide +kernel,by decide +kernel⟩
abbrev px:Stmt:=top 32
theorem zdn:zq ["hand", "word"] ["hand", "word"] (zf px):=⟨rfl,rfl,rfl,by decide +kernel,rfl,by decide +kernel,by decide +kernel⟩
abbrev v5:Stmt:=top 33
theorem sc_count_of_rows:zq ["hands", "count", "hand"] ["hands"] (zf v5):=⟨rfl,rfl,rfl,by decide +kernel,rfl,by decide +kernel,by decide +kernel⟩
abbrev tu:Stmt:=top 34
theorem av:zq ["outcomes", "hands"] ["outcomes", "hands"] (zf tu):=⟨rfl,rfl,rfl,by decide +kernel,rfl,by decide +kernel,by decide +kernel⟩
abbrev p0:Stmt:=top 35
theorem sc_kept_hand:zq ["hand", "worths"] ["hand"] (zf p0):=⟨rfl,rfl,rfl,by decide +kernel,rfl,by decide +kernel,by decide +kernel⟩
abbrev nu:Stmt:=top 36
theorem zdz:zq ["outcomes", "hands"] ["outcomes", "hands"] (zf nu):=⟨rfl,rfl,rfl,by decide +kernel,rfl,by decide +kernel,by decide +kernel⟩
abbrev sf:Stmt:=top 37
theorem ap:zq ["house"] ["house"] (zf sf):=⟨rfl,rfl,rfl,by decide +kernel,rfl,by decide +kernel,by decide +kernel⟩
abbrev n0:Stmt:=top 38
theorem zej:zq ["house"] ["house"] (zf n0):=⟨rfl,rfl,rfl,by decide +kernel,rfl,by decide +kernel,by decide +kernel⟩
abbrev p6:Stmt:=top 39
theorem sc_with_each:zq ["rows", "words", "longer", "row"] ["rows", "words"] (zf p6):=⟨rfl,rfl,rfl,by decide +kernel,rfl,by decide +kernel,by decide +kernel⟩
abbrev ph:Stmt:=top 40
theorem sc_rows_over:zq ["hands", "rows", "hand"] ["hands"] (zf ph):=⟨rfl,rfl,rfl,by decide +kernel,rfl,by decide +kernel,by decide +kernel⟩
abbrev kn:Stmt:=top 41
theorem zf2:zq ["house"] ["house"] (zf kn):=⟨rfl,rfl,rfl,by decide +kernel,rfl,by decide +kernel,by decide +kernel⟩
abbrev tq:Stmt:=top 46
theorem az:zq ["house", "thing"] ["house", "thing"] (zf tq):=⟨rfl,rfl,rfl,by decide +kernel,rfl,by decide +kernel,by decide +kernel⟩
abbrev v7:Stmt:=top 47
theorem db:zq ["house", "thing"] ["house", "thing"] (zf v7):=⟨rfl,rfl,rfl,by decide +kernel,rfl,by decide +kernel,by decide +kernel⟩
abbrev vo:Stmt:=top 48
theorem fq:zq ["house", "weights", "handicaps"] ["house", "weights", "handicaps"] (zf vo):=⟨rfl,rfl,rfl,by decide +kernel,rfl,by decide +kernel,by decide +kernel⟩
abbrev ki:Stmt:=top 49
theorem zgi:zq ["hand", "weight", "word"] ["hand", "weight", "word"] (zf ki):=⟨rfl,rfl,rfl,by decide +kernel,rfl,by decide +kernel,by decide +kernel⟩
abbrev ny:Stmt:=top 50
theorem zdy:zq ["house", "weights", "row"] ["house", "weights", "row"] (zf ny):=⟨rfl,rfl,rfl,by decide +kernel,rfl,by decide +kernel,by decide +kernel⟩
abbrev ic:Stmt:=top 51
theorem sc_scores:zq ["house", "weights", "handicaps", "row", "totals", "part"] ["house", "weights", "handicaps", "row"] (zf ic):=⟨rfl,rfl,rfl,by decide +kernel,rfl,by decide +kernel,by decide +kernel⟩
abbrev rq:Stmt:=top 52
theorem zbm:zq ["totals"] ["totals"] (zf rq):=⟨rfl,rfl,rfl,by decide +kernel,rfl,by decide +kernel,by decide +kernel⟩
abbrev uo:Stmt:=top 53
theorem cc:zq ["house", "weights", "handicaps", "row"] ["house", "weights", "handicaps", "row"] (zf uo):=⟨rfl,rfl,rfl,by decide +kernel,rfl,by decide +kernel,by decide +kernel⟩
abbrev qj:Stmt:=top 54
theorem zbt:zq ["house", "weights", "handicaps"] ["house", "weights", "handicaps"] (zf qj):=⟨rfl,rfl,rfl,by decide +kernel,rfl,by decide +kernel,by decide +kernel⟩
abbrev jb:Stmt:=top 56
theorem sc_holds:zq ["condition", "row", "kind"] ["condition", "row"] (zf jb):=⟨rfl,rfl,rfl,by decide +kernel,rfl,by decide +kernel,by decide +kernel⟩
abbrev fh:Stmt:=top 57
theorem zkh:zq ["rule", "row"] ["rule", "row"] (zf fh):=⟨rfl,rfl,rfl,by decide +kernel,rfl,by decide +kernel,by decide +kernel⟩
abbrev na:Stmt:=top 58
theorem zdx:zq ["house", "rule"] ["house", "rule"] (zf na):=⟨rfl,rfl,rfl,by decide +kernel,rfl,by decide +kernel,by decide +kernel⟩
abbrev oa:Stmt:=top 91
theorem zc6:zq ["house", "words"] ["house", "words"] (zf oa):=⟨rfl,rfl,rfl,by decide +kernel,rfl,by decide +kernel,by decide +kernel⟩
abbrev tz:Stmt:=top 92
theorem zag:zq ["house", "words", "told"] ["house", "words"] (zf tz):=⟨rfl,rfl,rfl,by decide +kernel,rfl,by decide +kernel,by decide +kernel⟩
abbrev rc:Stmt:=top 93
theorem sc_clauses_in:zq ["text", "clauses"] ["text"] (zf rc):=⟨rfl,rfl,rfl,by decide +kernel,rfl,by decide +kernel,by decide +kernel⟩
abbrev pj:Stmt:=top 94
theorem sc_read_rule:zq ["house", "text", "clauses", "rule"] ["house", "text"] (zf pj):=⟨rfl,rfl,rfl,by decide +kernel,rfl,by decide +kernel,by decide +kernel⟩
abbrev tj:Stmt:=top 97
theorem zae:zq ["text"] ["text"] (zf tj):=⟨rfl,rfl,rfl,by decide +kernel,rfl,by decide +kernel,by decide +kernel⟩
abbrev pz:Stmt:=top 98
theorem sc_number_of:zq ["text", "figures"] ["text"] (zf pz):=⟨rfl,rfl,rfl,by decide +kernel,rfl,by decide +kernel,by decide +kernel⟩
abbrev rf:Stmt:=top 99
theorem zbk:zq ["words"] ["words"] (zf rf):=⟨rfl,rfl,rfl,by decide +kernel,rfl,by decide +kernel,by decide +kernel⟩
abbrev p7:Stmt:=top 100
theorem sc_hand_from:zq ["text", "parts", "sayings"] ["text"] (zf p7):=⟨rfl,rfl,rfl,by decide +kernel,rfl,by decide +kernel,by decide +kernel⟩
abbrev qd:Stmt:=top 101
theorem sc_read_house:zq ["text", "parts"] ["text"] (zf qd):=⟨rfl,rfl,rfl,by decide +kernel,rfl,by decide +kernel,by decide +kernel⟩
abbrev uj:Stmt:=top 102
theorem sc_read_weights:zq ["text", "parts"] ["text"] (zf uj):=⟨rfl,rfl,rfl,by decide +kernel,rfl,by decide +kernel,by decide +kernel⟩
abbrev rn:Stmt:=top 110
theorem zbv:zq ["house", "rest"] ["house", "rest"] (zf rn):=⟨rfl,rfl,rfl,by decide +kernel,rfl,by decide +kernel,by decide +kernel⟩
abbrev vm:Stmt:=top 111
theorem sc_weighted_table:zq ["house", "rest", "told"] ["house", "rest"] (zf vm):=⟨rfl,rfl,rfl,by decide +kernel,rfl,by decide +kernel,by decide +kernel⟩
abbrev nq:Stmt:=top 112
theorem sc_row_from:zq ["table", "rest", "row"] ["table", "rest"] (zf nq):=⟨rfl,rfl,rfl,by decide +kernel,rfl,by decide +kernel,by decide +kernel⟩
abbrev p9:Stmt:=top 113
theorem zds:zq ["house", "table", "rest"] ["house", "table", "rest"] (zf p9):=⟨rfl,rfl,rfl,by decide +kernel,rfl,by decide +kernel,by decide +kernel⟩
abbrev qg:Stmt:=top 121
theorem sc_refuse_row:zq ["row", "first"] ["row"] (zf qg):=⟨rfl,rfl,rfl,by decide +kernel,rfl,by decide +kernel,by decide +kernel⟩
abbrev me:Stmt:=top 124
theorem zd0:zq ["script", "k"] ["script", "k"] (zf me):=⟨rfl,rfl,rfl,by decide +kernel,rfl,by decide +kernel,by decide +kernel⟩
abbrev rg:Stmt:=top 125
theorem zbx:zq ["cell", "top"] ["cell", "top"] (zf rg):=⟨rfl,rfl,rfl,by decide +kernel,rfl,by decide +kernel,by decide +kernel⟩
abbrev zr:Stmt:=top 126
theorem sc_law_names:zq ["cell", "many", "letters", "words", "other", "names", "k", "sign", "head"] ["cell", "many"] (zf zr):=⟨rfl,rfl,rfl,by decide +kernel,rfl,by decide +kernel,by decide +kernel⟩
abbrev pp:Stmt:=top 127
theorem sc_law_hands:zq ["script", "places", "top", "many", "called", "hands", "spot", "k", "size", "worths", "t"] ["script", "places", "top"] (zf pp):=⟨rfl,rfl,rfl,by decide +kernel,rfl,by decide +kernel,by decide +kernel⟩
abbrev ma:Stmt:=top 128
theorem sc_law_rows:zq ["hands", "rows", "hand", "longer_ones", "row", "word"] ["hands"] (zf ma):=⟨rfl,rfl,rfl,by decide +kernel,rfl,by decide +kernel,by decide +kernel⟩
abbrev qf:Stmt:=top 129
theorem zbo:zq ["hand", "word"] ["hand", "word"] (zf qf):=⟨rfl,rfl,rfl,by decide +kernel,rfl,by decide +kernel,by decide +kernel⟩
abbrev sd:Stmt:=top 130
theorem ao:zq ["script", "many"] ["script", "many"] (zf sd):=⟨rfl,rfl,rfl,by decide +kernel,rfl,by decide +kernel,by decide +kernel⟩
abbrev v8:Stmt:=top 131
theorem d8:zq ["script", "places"] ["script", "places"] (zf v8):=⟨rfl,rfl,rfl,by decide +kernel,rfl,by decide +kernel,by decide +kernel⟩
abbrev rb:Stmt:=top 132
theorem sc_law_scores:zq ["hands", "weights", "handicaps", "row", "found", "k", "worths", "j"] ["hands", "weights", "handicaps", "row"] (zf rb):=⟨rfl,rfl,rfl,by decide +kernel,rfl,by decide +kernel,by decide +kernel⟩
abbrev v6:Stmt:=top 133
theorem sc_law_house_row:zq ["outcomes", "hands", "some", "hand", "text", "t"] ["outcomes", "hands"] (zf v6):=⟨rfl,rfl,rfl,by decide +kernel,rfl,by decide +kernel,by decide +kernel⟩
abbrev ur:Stmt:=top 134
theorem cq:zq ["weights", "handicaps"] ["weights", "handicaps"] (zf ur):=⟨rfl,rfl,rfl,by decide +kernel,rfl,by decide +kernel,by decide +kernel⟩
abbrev uh:Stmt:=top 135
theorem sc_law_no_stand:zq ["desk", "row", "told", "e", "others"] ["desk", "row"] (zf uh):=⟨rfl,rfl,rfl,by decide +kernel,rfl,by decide +kernel,by decide +kernel⟩
abbrev qr:Stmt:=top 136
theorem sc_law_no_row:zq ["desk", "row", "told", "e", "others"] ["desk", "row"] (zf qr):=⟨rfl,rfl,rfl,by decide +kernel,rfl,by decide +kernel,by decide +kernel⟩
abbrev nn:Stmt:=top 137
theorem sc_law_none:zq ["desk", "hands", "row", "words"] ["desk", "hands"] (zf nn):=⟨rfl,rfl,rfl,by decide +kernel,rfl,by decide +kernel,by decide +kernel⟩
abbrev pc:Stmt:=top 138
theorem sc_law_dealt:zq ["desk", "hands", "outcomes", "weights", "handicaps", "row", "numbers", "place", "j"] ["desk", "hands", "outcomes", "weights", "handicaps"] (zf pc):=⟨rfl,rfl,rfl,by decide +kernel,rfl,by decide +kernel,by decide +kernel⟩
abbrev tm:Stmt:=top 139
theorem zad:zq ["desk", "hands", "outcomes", "weights", "handicaps"] ["desk", "hands", "outcomes", "weights", "handicaps"] (zf tm):=⟨rfl,rfl,rfl,by decide +kernel,rfl,by decide +kernel,by decide +kernel⟩
abbrev g9:Stmt:=top 140
theorem sc_law:zq ["script", "places", "hands", "outcomes", "weights", "handicaps", "desk", "other", "best_row", "row"] ["script"] (zf g9):=⟨rfl,rfl,rfl,by decide +kernel,rfl,by decide +kernel,by decide +kernel⟩
abbrev yn:Stmt:=top 1122
theorem du:zq ["self"] ["self"] (zf yn):=⟨rfl,rfl,rfl,by decide +kernel,rfl,by decide +kernel,by decide +kernel⟩
abbrev nk:Stmt:=top 2122
theorem sc_Desk_say:zq ["self", "row", "parts", "first", "rest"] ["self", "row"] (zf nk):=⟨rfl,rfl,rfl,by decide +kernel,rfl,by decide +kernel,by decide +kernel⟩
structure Bt(mg:Str->Option Value):Prop where
  «ValueError» : mg "ValueError" = none
  «abs» : mg "abs" = none
  «all» : mg "all" = none
  «bool» : mg "bool" = none
  «dict» : mg "dict" = none
  «int» : mg "int" = none
  «isinstance» : mg "isinstance" = none
  «len» : mg "len" = none
  «list» : mg "list" = none
  «max» : mg "max" = none
  «range» : mg "range" = none
  «set» : mg "set" = none
  «str» : mg "str" = none
  «tuple» : mg "tuple" = none
  «zip» : mg "zip" = none
  k_MOST_WORDS:∃t,mg "MOST_WORDS" = some (Value.int 8 t)
  k_MOST_LETTERS:∃t,mg "MOST_LETTERS" = some (Value.int 8 t)
  k_MOST_OUTCOMES:∃t,mg "MOST_OUTCOMES" = some (Value.int 8 t)
  k_MOST_HANDS:∃t,mg "MOST_HANDS" = some (Value.int 4 t)
  k_MOST_ROWS:∃t,mg "MOST_ROWS" = some (Value.int 256 t)
  k_MOST_CLAUSES:∃t,mg "MOST_CLAUSES" = some (Value.int 20 t)
  k_MOST_CLAUSE_WORDS:∃t,mg "MOST_CLAUSE_WORDS" = some (Value.int 40 t)
  k_MOST_FIGURES:∃t,mg "MOST_FIGURES" = some (Value.int 60 t)
structure Ad where
  NoHouse:Addr
  NoWeight:Addr
  NoRule:Addr
  NoWord:Addr
  NoRow:Addr
  TrueError:Addr
  Desk:Addr
  NoStand:Addr
  NoShare:Addr
  NoPays:Addr
  NoMenu:Addr
structure Ct(K:Fg)(mg:Str->Option Value)(a:Ad):Prop where
  m_NoHouse:mg "NoHouse" = some (.ref a.NoHouse)
  q_NoHouse:ErrQ K a.NoHouse
  m_NoWeight:mg "NoWeight" = some (.ref a.NoWeight)
  q_NoWeight:ErrQ K a.NoWeight
  m_NoRule:mg "NoRule" = some (.ref a.NoRule)
  q_NoRule:ErrQ K a.NoRule
  m_NoWord:mg "NoWord" = some (.ref a.NoWord)
  q_NoWord:ErrQ K a.NoWord
  m_NoRow:mg "NoRow" = some (.ref a.NoRow)
  q_NoRow:ErrQ K a.NoRow
  v_NoRow:PySem.W.kitOne K (.ref a.NoRow) (.type "ValueError")=some true
  m_TrueError:mg "TrueError" = some (.ref a.TrueError)
  q_TrueError:ErrQ K a.TrueError
  m_Desk:mg "Desk" = some (.ref a.Desk)
  m_NoStand:mg "NoStand" = some (.ref a.NoStand)
  q_NoStand:ErrQ K a.NoStand
  v_NoStand:PySem.W.kitOne K (.ref a.NoStand) (.type "ValueError")=some true
  m_NoShare:mg "NoShare" = some (.ref a.NoShare)
  m_NoPays:mg "NoPays" = some (.ref a.NoPays)
  m_NoMenu:mg "NoMenu" = some (.ref a.NoMenu)
  k_NoRow_NoHouse:PySem.W.kitOne K (.ref a.NoRow) (.ref a.NoHouse)=some false
  k_NoRow_NoWeight:PySem.W.kitOne K (.ref a.NoRow) (.ref a.NoWeight)=some false
  k_NoRow_NoRule:PySem.W.kitOne K (.ref a.NoRow) (.ref a.NoRule)=some false
  k_NoRow_NoWord:PySem.W.kitOne K (.ref a.NoRow) (.ref a.NoWord)=some false
  s_NoRow_NoRow:PySem.W.mroIn K a.NoRow (.ref a.NoRow)=some true
  k_NoRow_NoRow:PySem.W.kitOne K (.ref a.NoRow) (.ref a.NoRow)=some true
  s_NoRow_TrueError:PySem.W.mroIn K a.NoRow (.ref a.TrueError)=some true
  k_NoRow_TrueError:PySem.W.kitOne K (.ref a.NoRow) (.ref a.TrueError)=some true
  k_NoRow_NoStand:PySem.W.kitOne K (.ref a.NoRow) (.ref a.NoStand)=some false
  k_NoRow_NoShare:PySem.W.kitOne K (.ref a.NoRow) (.ref a.NoShare)=some false
  k_NoRow_NoPays:PySem.W.kitOne K (.ref a.NoRow) (.ref a.NoPays)=some false
  k_NoRow_NoMenu:PySem.W.kitOne K (.ref a.NoRow) (.ref a.NoMenu)=some false
  k_NoStand_NoHouse:PySem.W.kitOne K (.ref a.NoStand) (.ref a.NoHouse)=some false
  k_NoStand_NoWeight:PySem.W.kitOne K (.ref a.NoStand) (.ref a.NoWeight)=some false
  k_NoStand_NoRule:PySem.W.kitOne K (.ref a.NoStand) (.ref a.NoRule)=some false
  k_NoStand_NoWord:PySem.W.kitOne K (.ref a.NoStand) (.ref a.NoWord)=some false
  k_NoStand_NoRow:PySem.W.kitOne K (.ref a.NoStand) (.ref a.NoRow)=some false
  s_NoStand_TrueError:PySem.W.mroIn K a.NoStand (.ref a.TrueError)=some true
  k_NoStand_TrueError:PySem.W.kitOne K (.ref a.NoStand) (.ref a.TrueError)=some true
  s_NoStand_NoStand:PySem.W.mroIn K a.NoStand (.ref a.NoStand)=some true
  k_NoStand_NoStand:PySem.W.kitOne K (.ref a.NoStand) (.ref a.NoStand)=some true
  k_NoStand_NoShare:PySem.W.kitOne K (.ref a.NoStand) (.ref a.NoShare)=some false
  k_NoStand_NoPays:PySem.W.kitOne K (.ref a.NoStand) (.ref a.NoPays)=some false
  k_NoStand_NoMenu:PySem.W.kitOne K (.ref a.NoStand) (.ref a.NoMenu)=some false
theorem Same.upd{H H':Hp}(s:Same H H'){a:Addr}{o:HO}(n:H a=none):Same H (upd H' a o):=fun b u e=>by
  rw[z8 (w5 e n)];exact s b u e
theorem lay{H:Hp}{l:Addr}(h:H l=none)(o:HO):Same H (upd H l o)/\upd H l o l=some o:=⟨Same.upd (Same.refl _) h,zn⟩
def gd(K:Fg):Sp:=fun vs H Q _=>∃(a:Addr) (ns:List Int) (k:Int),vs=[.ref a,.int k]/\SqL K H a (ns.map V.int)/\0<=k/\∀v:Int,Q (.int v) H
def zfy(K:Fg):Sp:=fun vs H Q _=>∃(a:Addr) (ns:List Int),vs=[.ref a]/\SqL K H a (ns.map V.int)/\ns.length<=63/\∀H',Q (.bl true) H'
theorem zl6{n j:Nat}(h:j<n):ixN n (j:Int)=some j:=by
  unfold ixN;rw[if_pos (by omega),if_pos (by omega)];simp
theorem zh9 {K:Fg} {f:Addr} {fd:FuncData} (F:Fun K "law" "law" g9 f fd) (s:Shared) (u:Value):BindsTo s fd ⟨[u],[]⟩ [("script", u)]:=by
  obtain⟨oc,od,kV,doc,pm,an,cdv,ct,osl,rfl,lk,hcd⟩:=F.ex;exact .of_eq rfl
theorem m7{bs:List Addr}{i:Nat}{x:V}(hx:(bs.map V.ref)[i]? = some x):∃r,bs[i]? = some r/\x=V.ref r:=by
  rw[Ze]at hx
  cases e:bs[i]? with
  | none=>rw[e]at hx;cases hx
  | some r=>rw[e]at hx;cases hx;exact⟨r,rfl,rfl⟩
theorem dc{ms:List Int}{i:Nat}{x:V}(hx:(ms.map V.int)[i]? = some x):∃r,ms[i]? = some r/\x=V.int r:=by
  rw[Ze]at hx
  cases e:ms[i]? with
  | none=>rw[e]at hx;cases hx
  | some r=>rw[e]at hx;cases hx;exact⟨r,rfl,rfl⟩
structure HX where
  t:Addr
  w:Addr
  g:Addr
  gs:List Addr
structure HD where
  name:Str
  words:List Str
  worths:List (List Int)
structure HandAt(H:Hp)(x:HX)(d:HD):Prop where
  tup:H x.t=some (.tup [.str d.name,.ref x.w,.ref x.g])
  words:H x.w=some (.lst (d.words.map V.str))
  grid:H x.g=some (.lst (x.gs.map V.ref))
  len:x.gs.length=d.worths.length
  row:∀(i:Nat) (r:Addr) (ns:List Int),x.gs[i]? = some r->d.worths[i]? = some ns->H r=some (.lst (ns.map V.int))
theorem HandAt.mono{H H':Hp}{x:HX}{d:HD}(S:Same H H')(h:HandAt H x d):HandAt H' x d :=
  ⟨S _ _ h.tup,S _ _ h.words,S _ _ h.grid,h.len,fun i r ns e1 e2=>S _ _ (h.row i r ns e1 e2)⟩
def GoodN(z:Str):Prop:=1<=z.length/\z.length<=8/\∀c∈z.cps.toList,97<=c/\c<=122
theorem jt{z:Str}{n c:Nat}(h:c∈(xw z n).cps.toList):c∈z.cps.toList:=by
  unfold xw at h;simp only[List.toList_toArray,Xa]at h;obtain⟨l,h1,h2⟩:=h;rw[(List.mem_replicate.mp h1).2]at h2;exact h2
theorem fv{y z:Str}{c:Nat}(h:c∈(y++z).cps.toList):c∈y.cps.toList\/c∈z.cps.toList:=by
  have:(y++z).cps.toList=y.cps.toList++z.cps.toList:=by
    show(y.cps++z.cps).toList=_
    simp
  rw[this]at h;exact ZH.mp h
theorem zlx{x y:Str}{n:Nat}{a b:Nat}(f:Str)(h:xw f n++chr1 a++x=xw f n++chr1 b++y):a=b:=by
  have h1:(xw f n++chr1 a++x).cps.toList=(xw f n++chr1 b++y).cps.toList:=by rw[h]
  have e:∀(z:Str) (a:Nat),(xw f n++chr1 a++z).cps.toList=(xw f n).cps.toList++([a]++z.cps.toList):=fun z a=>by
    show(((xw f n).cps++(chr1 a).cps)++z.cps).toList=_
    simp[chr1]
  rw[e,e]at h1;have:=List.append_cancel_left h1;simp at this;exact this.1
structure HandsL(H:Hp)(b:Addr)(xs:List HX)(ds:List HD):Prop where
  at':H b=some (.lst (xs.map fun x=>V.ref x.t))
  len:xs.length=ds.length
  hand:∀(i:Nat) (x:HX) (d:HD),xs[i]? = some x->ds[i]? = some d->HandAt H x d
theorem HandsL.mono{H H':Hp}{b:Addr}{xs:List HX}{ds:List HD}(S:Same H H')(g:HandsL H b xs ds):HandsL H' b xs ds:=⟨S _ _ g.at',g.len,fun i x d e1 e2=>(g.hand i x d e1 e2).mono S⟩
structure GoodHouse(outs:List Str)(ds:List HD):Prop where
  outs1:1<=outs.length/\outs.length<=8
  outsG:∀z∈outs,GoodN z
  outsD:outs.Nodup
  hands:1<=ds.length/\ds.length<=4
  handsG:∀d∈ds,GoodN d.name
  handsD:(ds.map HD.name).Nodup
  words1:∀d∈ds,1<=d.words.length/\d.words.length<=8
  wordsG:∀d∈ds,∀z∈d.words,GoodN z
  wordsD:∀d∈ds,d.words.Nodup
  rows:∀d∈ds,d.worths.length=d.words.length
  cols:∀d∈ds,∀r∈d.worths,r.length=outs.length
  nums:∀d∈ds,∀r∈d.worths,∀n∈r,-(10^60)<n/\n<10^60
  few:(ds.map fun d=>d.words.length).prod<=256
theorem zkx{n t:Nat}:∀{l:List Nat},(∀x∈l,x<=t)->l.length=n->l.prod<=t^n:=by
  induction n with
  | zero=>intro l _ hl;rw[ZZ.mp hl];simp
  | succ n ih =>
    intro l h hl
    match l,hl with
    | x::l,hl =>
      rw[List.prod_cons,Nat.pow_succ,Nat.mul_comm];exact YM (ih (fun y hy=>h y (Zv _ hy)) (by simpa using hl)) (h x ZA)
def wj(i:Int):Prop := -(10^60)<i/\i<10^60
def zjb:Sp:=fun vs H Q _=>∃i:Int,vs=[.int i]/\Q (.bl true) H
def zhk:Sp:=fun vs H Q _=>∃i:Int,vs=[.int i]/\wj i/\Q (.bl true) H
def qRow:Sp:=fun vs H Q _=>∃(r:Addr) (ns:List Int) (n:Nat),vs=[.ref r,.int n]/\H r=some (.lst (ns.map V.int))/\ns.length=n/\n<=8/\(∀i∈ns,wj i)/\∀H',Same H H'->Q (.bl true) H'
def zgd:Sp:=fun vs H Q _=>∃z:Str,vs=[.str z]/\GoodN z/\∀H',Same H H'->Q (.bl true) H'
def zcy:Sp:=fun vs H Q _=>∃(l:Addr) (zs:List Str) (m:Nat),vs=[.ref l,.int m]/\H l=some (.lst (zs.map V.str))/\1<=zs.length/\zs.length<=m/\m<=8/\(∀z∈zs,GoodN z)/\zs.Nodup/\∀H',Same H H'->Q (.bl true) H'
def zfc:Sp:=fun vs H Q _=>∃(g:Addr) (gs:List Addr) (rows:List (List Int)) (h n:Nat),vs=[.ref g,.int h,.int n]/\H g=some (.lst (gs.map V.ref))/\gs.length=h/\rows.length=h/\h<=8/\n<=8/\(∀(i:Nat) (r:Addr) (ns:List Int),gs[i]? = some r->rows[i]? = some ns->H r=some (.lst (ns.map V.int))) /\
  (∀r∈rows,r.length=n/\∀i∈r,wj i)/\∀H',Same H H'->Q (.bl true) H'
structure GoodD(d:HD)(n:Nat):Prop where
  name:GoodN d.name
  words:1<=d.words.length/\d.words.length<=8
  wordsG:∀z∈d.words,GoodN z
  wordsD:d.words.Nodup
  rows:d.worths.length=d.words.length
  cols:∀r∈d.worths,r.length=n/\∀i∈r,wj i
theorem GoodHouse.hand{outs:List Str}{ds:List HD}(g:GoodHouse outs ds){d:HD}(h:d∈ds):GoodD d outs.length :=
  ⟨g.handsG d h,g.words1 d h,g.wordsG d h,g.wordsD d h,g.rows d h,fun r hr=>⟨g.cols d h r hr,fun i hi=>g.nums d h r hr i hi⟩⟩
def qHand:Sp:=fun vs H Q _=>∃(x:HX) (d:HD) (n:Nat),vs=[.ref x.t,.int n]/\HandAt H x d/\GoodD d n/\n<=8/\∀H',Same H H'->Q (.bl true) H'
def km(f:HX->HD->V):Sp:=fun vs H Q _=>∃(x:HX) (d:HD),vs=[.ref x.t]/\HandAt H x d/\Q (f x d) H
def zhe:Sp:=fun vs H Q _=>∃(b:Addr) (xs:List HX) (ds:List HD),vs=[.ref b]/\HandsL H b xs ds/\(∀d∈ds,d.words.length<=8)/\ds.length<=4/\Q (.int ((ds.map fun d=>d.words.length).prod:Nat)) H
def zin:Sp:=fun vs H Q _=>∃(o b:Addr) (outs:List Str) (xs:List HX) (ds:List HD),vs=[.ref o,.ref b]/\H o=some (.lst (outs.map V.str))/\HandsL H b xs ds/\GoodHouse outs ds/\∀H',Same H H'->Q (.bl true) H'
def allT(n:Nat):List Bool:=List.replicate n true
def PvAT(H:Hp)(i:Nat)(ys:List V)(H':Hp):Prop:=Same H H'/\ys=(allT i).map V.bl
theorem ud(n:Nat):(allT n).map V.bl++[V.bl true]=(allT (n+1)).map V.bl:=by
  rw[allT,allT,List.replicate_succ',Zn];rfl
theorem sh(n:Nat):(allT n).all id=true:=by
  rw[ZS];intro x hx;exact List.eq_of_mem_replicate hx
theorem sg(n:Nat):((allT n).map V.bl).length=n:=by rw[Za,allT,ZI]
theorem zfi{zs:List Str}(hd:zs.Nodup):∀i,i<=zs.length->seen (fun j=>zs.getD j ⟨#[]⟩) i=zs.take i
  | 0,_=>rfl
  | i+1,h=>by
    have ih:=zfi hd i (by omega);have hi:i<zs.length:=by omega
    have e:zs.getD i ⟨#[]⟩=zs[i]:=by simp[Zk,hi]
    show(if zs.getD i ⟨#[]⟩∈seen (fun j=>zs.getD j ⟨#[]⟩) i then _ else seen (fun j=>zs.getD j ⟨#[]⟩) i++[zs.getD i ⟨#[]⟩])=_
    rw[ih,e,if_neg,Zq]
    . simp[hi]
    . intro hm
      obtain⟨j,hj,ej⟩:=Zy hm;rw[Zj]at hj;rw[List.getElem_take]at ej;have:=(YX hd).mp ej;omega
theorem aw:kit0 "str" "str" = some true:=by decide +kernel
theorem fb:kit0 "list" "list" = some true:=by decide +kernel
theorem zk7:kit0 "tuple" "tuple" = some true:=by decide +kernel
theorem zkv:kit0 "int" "int" = some true:=by decide +kernel
theorem zlq:kit0 "int" "bool" = some false:=by decide +kernel
theorem zld{c:Nat}(h1:97<=c)(h2:c<=122):(!decide ((chr1 c).cps.toList<(Str.ofString "a").cps.toList))=true/\(!decide ((Str.ofString "z").cps.toList<(chr1 c).cps.toList))=true:=by
  have ea:(Str.ofString "a").cps.toList=[97]:=by decide +kernel
  have ez:(Str.ofString "z").cps.toList=[122]:=by decide +kernel
  have ec:(chr1 c).cps.toList=[c]:=rfl;rw[ea,ez,ec]
  constructor
  . rw[decide_eq_false]
    . rfl
    . intro z
      rw[Yp]at z
      rcases z with z | ⟨_,z⟩
      . omega
      . exact absurd z (by simp)
  . rw[decide_eq_false]
    . rfl
    . intro z
      rw[Yp]at z
      rcases z with z | ⟨_,z⟩
      . omega
      . exact absurd z (by simp)
def PvNm(H:Hp)(ds:List HD)(i:Nat)(ys:List V)(H':Hp):Prop:=H'=H/\ys=((ds.take i).map HD.name).map V.str
def PvCt(H:Hp)(b:Addr)(ds:List HD)(i:Nat)(σ:L2.St)(H4:Hp):Prop:=H4=H/\∃v,σ=[some (.ref b),some (.int (((ds.take i).map fun d=>d.words.length).prod:Nat)),v]
section
variable{P:Program}{w:World}{K:Fg}{mg:Str->Option Value}{base:Heap}{a:Ad}
theorem j6 (B:Bt mg) (D:zc K mg "is_whole" mf ["thing"]):FnAt P w K mg base "is_whole" 1 ["thing"] zjb:=by
  refine FnAt.of D zdv (fun vs H Q E h => ?_) (fun f cdv A outer s H vs Q E hr h => ?_)
  . obtain⟨x,rfl,_⟩:=h
    rfl
  . obtain⟨x,rfl,q⟩:=h
    refine⟨_,(@zd _ _ _ (@zp _ _ _ _ (@uy _ _ _ _ _ _ _ (zx xv rfl B.isinstance yk (za (pv 0) (za (t9 rfl B.int zdu) (@zb _)))) (@u9 _ _ _ _ _ (@zhr _ _ _ _ (zx xv rfl B.isinstance yk (za (pv 0) (za (t9 rfl B.bool zk0) (@zb _))))))))),?_⟩;rw[show start ["thing"] [V.int x]=[some (V.int x)] from rfl];simp only[zg,zh,↓reduceIte];exact⟨_,.int _,true,zkv,iteT ⟨_,.int _,false,zlq,q⟩⟩
theorem lb (B:Bt mg) (j6:FnAt P w K mg base "is_whole" 1 ["thing"] zjb) (D:zc K mg "is_bounded" qc ["thing"]):FnAt P w K mg base "is_bounded" 2 ["thing"] zhk:=by
  refine FnAt.of D zbr (fun vs H Q E h => ?_) (fun f cdv A outer s H vs Q E hr h => ?_)
  . obtain⟨x,rfl,_⟩:=h
    rfl
  . obtain⟨x,rfl,g,q⟩:=h
    refine⟨_,(@zd _ _ _ (@zp _ _ _ _ (@uy _ _ _ _ _ _ _ (zj j6 (hr.mono (by decide)) rfl (za (pv 0) (@zb _))) (@u9 _ _ _ _ _ (@um _ _ _ _ _ _ _ _ op_lt (zx zdd rfl B.abs zhg (za (pv 0) (@zb _))) (@zt _ _ _ _ _ _ _ _ jc (@zi _ _ _ _) (@zi _ _ _ _)) (yd _)))))),?_⟩;rw[show start ["thing"] [V.int x]=[some (V.int x)] from rfl];simp only[zg,zh,↓reduceIte];refine⟨x,rfl,_,rfl,iteT ⟨⟨by decide,by decide,by decide⟩,?_⟩⟩;rw[decide_eq_true]
    . exact q
    . have h1:=g.1
      have h2:=g.2
      show _<(10:Int)^60
      split <;> omega
theorem wm (B:Bt mg) (lb:FnAt P w K mg base "is_bounded" 2 ["thing"] zhk) (D:zc K mg "is_grid_row" tw ["thing", "width"]):FnAt P w K mg base "is_grid_row" 3 ["thing", "width"] qRow:=by
  refine FnAt.of D ay (fun vs H Q E h => ?_) (fun f cdv A outer s H vs Q E hr h => ?_)
  . obtain⟨r,ns,n,rfl,_⟩:=h
    rfl
  . obtain⟨r,ns,n,rfl,hr1,ln,n8,hg,q⟩:=h
    refine⟨_,(@ze _ _ _ _ _ (@yh _ _ _ _ _ _ _ _ (PW.pt (@ui _ _ _ _ _ _ _ (@yv _ _ _ _ (yx (zx xv rfl B.isinstance yk (za (pv 0) (za (t9 rfl B.list ml) (@zb _)))))) (@vq _ _ _ _ (@yb _ _ _ _ _ _ _ _ ve (zx yf rfl B.len xi (za (pv 0) (@zb _))) (pv 1) (yd _))))) (@zd _ _ _ (@zp _ _ _ _ (@yz _ _ _ _))) (@z7 _)) (@zd _ _ _ (@zp _ _ _ _ (zx (ub rfl) rfl B.all ll (za (yj ["worth"] ["thing", "width"] rfl (@ye _ _ _ _ (pv 0)) (fun _=>(zw (i:=0) (show(["worth", "thing", "width"]:List Str).Nodup by decide +kernel) rfl (Or.inl rfl))) (fun _=>(@yi _)) (fun _=>(zj lb (hr.mono (by decide)) rfl (za (pv 0) (@zb _)))) rfl (by decide +kernel) rfl rfl) (@zb _)))))),?_⟩;rw[show start ["thing", "width"] [V.ref r,V.int n]=[some (V.ref r),some (V.int n)] from rfl];simp only[zg,zh,↓reduceIte];refine⟨_,.lst hr1,true,fb,iteF ⟨_,.inl (.of hr1),rfl,?_⟩⟩;rw[Za,ln];refine zfs rfl ⟨⟨_,.of hr1⟩,fun d => ?_⟩;refine ym (xs:=ns.map V.int) (PvAT H) ⟨Same.refl _,rfl⟩ ?_ ?_ ?_
    . rintro i ys H2 hi ⟨S,rfl⟩
      rw[Za]at hi;exact⟨by rw[sg];exact Zd hi (Zd (show ns.length<=8 by omega) (by decide)),S.seq (.of hr1)⟩
    . rintro i x ys H2 hx ⟨S,rfl⟩
      obtain⟨y,hy,rfl⟩:=yu hx;simp only[zg,zh,↓reduceIte];exact⟨y,rfl,hg y (Zi hy),S,ud i⟩
    . rintro ys H2 ⟨S,rfl⟩ l hl
      refine⟨_,.of zn,?_⟩;rw[sh];exact q _ (S.trans (Same.upd (Same.refl _) hl))
theorem om (B:Bt mg) (D:zc K mg "is_name" l6 ["thing"]):FnAt P w K mg base "is_name" 1 ["thing"] zgd:=by
  refine FnAt.of D zgl (fun vs H Q E h => ?_) (fun f cdv A outer s H vs Q E hr h => ?_)
  . obtain⟨x,rfl,_⟩:=h
    rfl
  . obtain⟨z,rfl,g,q⟩:=h
    refine⟨_,(@ze _ _ _ _ _ (@yh _ _ _ _ _ _ _ _ (PW.pt (@ui _ _ _ _ _ _ _ (@yv _ _ _ _ (yx (zx xv rfl B.isinstance yk (za (pv 0) (za (t9 rfl B.str mv) (@zb _)))))) (@vq _ _ _ _ (@yv _ _ _ _ (zc1 j8 j8 (@zi _ _ _ _) (zx gb rfl B.len xi (za (pv 0) (@zb _))) (uc rfl B.k_MOST_LETTERS)))))) (@zd _ _ _ (@zp _ _ _ _ (@yz _ _ _ _))) (@z7 _)) (@zd _ _ _ (@zp _ _ _ _ (zx (ub rfl) rfl B.all ll (za (yj ["sign"] ["thing"] rfl (@zik _ _ _ _ (pv 0)) (fun _=>(zw (i:=0) (show(["sign", "thing"]:List Str).Nodup by decide +kernel) rfl (Or.inl rfl))) (fun _=>(@yi _)) (fun _=>(d9 bv bv (@zm _ _ _ _) (pv 0) (@zm _ _ _ _))) rfl (by decide +kernel) rfl rfl) (@zb _)))))),?_⟩;rw[show start ["thing"] [V.str z]=[some (V.str z)] from rfl];simp only[zg,zh,↓reduceIte];obtain⟨g1,g2,g3⟩:=g;refine⟨_,.str _,true,aw,iteF ?_⟩;refine⟨Zd g2 (by decide),ite2 (fun _=>ite2 (fun h => ?_) fun _ => ?_) fun h=>(h (decide_eq_true (by omega))).elim⟩
    . rw[decide_eq_true (show(z.length:Int)<=8 by omega)]at h
      cases h
    . intro d
      refine zdh (PvAT H) ⟨Same.refl _,rfl⟩ ?_ ?_ ?_
      . rintro i ys H' hi ⟨S,rfl⟩
        rw[sg];exact Zd hi (Zd (show z.cps.size<=8 from g2) (by decide))
      . rintro i c ys H' hc ⟨S,rfl⟩
        have hm:c∈z.cps.toList:=by
          obtain⟨hi,e⟩:=ZW.mp hc;rw[<-e];exact Array.getElem_mem_toList hi
        obtain⟨o1,o2⟩:=zld (g3 c hm).1 (g3 c hm).2;simp only[zg,zh,↓reduceIte];rw[if_pos o1,o2];exact⟨S,ud i⟩
      . rintro ys H' ⟨S,rfl⟩ l hl
        refine⟨_,.of zn,?_⟩;rw[sh];exact q _ (S.trans (Same.upd (Same.refl _) hl))
theorem v0 (B:Bt mg) (om:FnAt P w K mg base "is_name" 1 ["thing"] zgd) (D:zc K mg "are_names" q8 ["thing", "most"]):FnAt P w K mg base "are_names" 2 ["thing", "most"] zcy:=by
  refine FnAt.of D zcu (fun vs H Q E h => ?_) (fun f cdv A outer s H vs Q E hr h => ?_)
  . obtain⟨l,zs,m,rfl,_⟩:=h
    rfl
  . obtain⟨l,zs,m,rfl,hl,g1,g2,g3,gG,gD,q⟩:=h
    refine⟨_,(@ze _ _ _ _ _ (@yh _ _ _ _ _ _ _ _ (PW.pt (@ui _ _ _ _ _ _ _ (@yv _ _ _ _ (yx (zx xv rfl B.isinstance yk (za (pv 0) (za (t9 rfl B.list ml) (@zb _)))))) (@vq _ _ _ _ (@yv _ _ _ _ (zc1 j8 j8 (@zi _ _ _ _) (zx yf rfl B.len xi (za (pv 0) (@zb _))) (pv 1)))))) (@zd _ _ _ (@zp _ _ _ _ (@yz _ _ _ _))) (@z7 _)) (@zd _ _ _ (@zp _ _ _ _ (@uy _ _ _ _ _ _ _ (zx (ub rfl) rfl B.all ll (za (yj ["one"] ["thing", "most"] rfl (@ye _ _ _ _ (pv 0)) (fun _=>(zw (i:=0) (show(["one", "thing", "most"]:List Str).Nodup by decide +kernel) rfl (Or.inl rfl))) (fun _=>(@yi _)) (fun _=>(zj om (hr.mono (by decide)) rfl (za (pv 0) (@zb _)))) rfl (by decide +kernel) rfl rfl) (@zb _))) (@u9 _ _ _ _ _ (@um _ _ _ _ _ _ _ _ ua (zh4 rfl rfl B.len rfl B.set (za (pv 0) (@zb _))) (zx yf rfl B.len xi (za (pv 0) (@zb _))) (yd _))))))),?_⟩;rw[show start ["thing", "most"] [V.ref l,V.int m]=[some (V.ref l),some (V.int m)] from rfl];simp only[zg,zh,↓reduceIte];refine⟨_,.lst hl,true,fb,iteF ⟨_,.inl (.of hl),?_⟩⟩;rw[Za];refine ite2 (fun _=>ite2 (fun h => ?_) fun _ => ?_) fun h=>(h (decide_eq_true (by omega))).elim
    . rw[decide_eq_true (show(zs.length:Int)<=m by omega)]at h
      cases h
    . refine⟨⟨_,.of hl⟩,fun d => ?_⟩
      refine ym (xs:=zs.map V.str) (PvAT H) ⟨Same.refl _,rfl⟩ ?_ ?_ ?_
      . rintro i ys H2 hi ⟨S,rfl⟩
        rw[Za]at hi;exact⟨by rw[sg];exact Zd hi (Zd (show zs.length<=8 by omega) (by decide)),S.seq (.of hl)⟩
      . rintro i x ys H2 hx ⟨S,rfl⟩
        obtain⟨y,hy,rfl⟩:=yu hx;simp only[zg,zh,↓reduceIte];exact⟨y,rfl,gG y (Zi hy),fun H3 S3=>⟨S.trans S3,ud i⟩⟩
      . rintro ys H2 ⟨S,rfl⟩ p hp
        have S2:Same H (upd H2 p (.lst ((allT (zs.map V.str).length).map V.bl))):=S.trans (Same.upd (Same.refl _) hp);refine⟨_,.of zn,?_⟩;rw[sh];generalize upd H2 p (.lst ((allT (zs.map V.str).length).map V.bl))=H3 at *;refine⟨zs,S2.seq (.of hl),by omega,_,.inl (S2.seq (.of hl)),rfl,?_⟩;rw[zfi gD _ (Zm _),Zt,Za,decide_eq_true rfl];exact q _ S2
theorem la (B:Bt mg) (wm:FnAt P w K mg base "is_grid_row" 3 ["thing", "width"] qRow) (D:zc K mg "are_worths" r6 ["thing", "height", "width"]):FnAt P w K mg base "are_worths" 4 ["thing", "height", "width"] zfc:=by
  refine FnAt.of D zbq (fun vs H Q E h => ?_) (fun f cdv A outer s H vs Q E hr h => ?_)
  . obtain⟨g,gs,rows,ht,n,rfl,_⟩:=h
    rfl
  . obtain⟨g,gs,rows,ht,n,rfl,hg,l1,l2,b1,b2,hrow,hG,q⟩:=h
    refine⟨_,(@ze _ _ _ _ _ (@yh _ _ _ _ _ _ _ _ (PW.pt (@ui _ _ _ _ _ _ _ (@yv _ _ _ _ (yx (zx xv rfl B.isinstance yk (za (pv 0) (za (t9 rfl B.list ml) (@zb _)))))) (@vq _ _ _ _ (@yb _ _ _ _ _ _ _ _ ve (zx yf rfl B.len xi (za (pv 0) (@zb _))) (pv 1) (yd _))))) (@zd _ _ _ (@zp _ _ _ _ (@yz _ _ _ _))) (@z7 _)) (@zd _ _ _ (@zp _ _ _ _ (zx (ub rfl) rfl B.all ll (za (yj ["row"] ["thing", "height", "width"] rfl (@ye _ _ _ _ (pv 0)) (fun _=>(zw (i:=0) (show(["row", "thing", "height", "width"]:List Str).Nodup by decide +kernel) rfl (Or.inl rfl))) (fun _=>(@yi _)) (fun _=>(zj wm (hr.mono (by decide)) rfl (za (pv 0) (za (pv 3) (@zb _))))) rfl (by decide +kernel) rfl rfl) (@zb _)))))),?_⟩;rw[show start ["thing", "height", "width"] [V.ref g,V.int ht,V.int n]=[some (V.ref g),some (V.int ht),some (V.int n)] from rfl];simp only[zg,zh,↓reduceIte];refine⟨_,.lst hg,true,fb,iteF ⟨_,.inl (.of hg),rfl,?_⟩⟩;rw[Za,l1];refine zfs rfl ⟨⟨_,.of hg⟩,fun d => ?_⟩;refine ym (xs:=gs.map V.ref) (PvAT H) ⟨Same.refl _,rfl⟩ ?_ ?_ ?_
    . rintro i ys H2 hi ⟨S,rfl⟩
      rw[Za]at hi;exact⟨by rw[sg];exact Zd hi (Zd (show gs.length<=8 by omega) (by decide)),S.seq (.of hg)⟩
    . rintro i x ys H2 hx ⟨S,rfl⟩
      obtain⟨r,hr',rfl⟩:=yu hx;have hi:i<rows.length:=by have:=(Zc.mp hr').1;omega
      have e2:rows[i]? = some rows[i]:=by simp[hi]
      have hm:=hG rows[i] (Zl hi);simp only[zg,zh,↓reduceIte];exact⟨r,rows[i],n,rfl,S _ _ (hrow i r rows[i] hr' e2),hm.1,b2,hm.2,fun H3 S3=>⟨S.trans S3,ud i⟩⟩
    . rintro ys H2 ⟨S,rfl⟩ l hl
      refine⟨_,.of zn,?_⟩;rw[sh];exact q _ (S.trans (Same.upd (Same.refl _) hl))
theorem ge (B:Bt mg) (om:FnAt P w K mg base "is_name" 1 ["thing"] zgd) (v0:FnAt P w K mg base "are_names" 2 ["thing", "most"] zcy) (la:FnAt P w K mg base "are_worths" 4 ["thing", "height", "width"] zfc) (D:zc K mg "is_hand" kh ["thing", "width"]):FnAt P w K mg base "is_hand" 5 ["thing", "width"] qHand:=by
  refine FnAt.of D zf3 (fun vs H Q E h => ?_) (fun f cdv A outer s H vs Q E hr h => ?_)
  . obtain⟨x,d,n,rfl,_⟩:=h
    rfl
  . obtain⟨x,d,n,rfl,hx,g,n8,q⟩:=h
    refine⟨_,(@ze _ _ _ _ _ (@yh _ _ _ _ _ _ _ _ (PW.pt (@ui _ _ _ _ _ _ _ (@yv _ _ _ _ (yx (zx xv rfl B.isinstance yk (za (pv 0) (za (t9 rfl B.tuple sm) (@zb _)))))) (@vq _ _ _ _ (@yb _ _ _ _ _ _ _ _ ve (zx yf rfl B.len xi (za (pv 0) (@zb _))) (@zi _ _ _ _) (yd _))))) (@zd _ _ _ (@zp _ _ _ _ (@yz _ _ _ _))) (@z7 _)) (@zd _ _ _ (@zp _ _ _ _ (@uy _ _ _ _ _ _ _ (zj om (hr.mono (by decide)) rfl (za (@z0 _ _ _ _ _ _ _ yq (pv 0) (@zi _ _ _ _) (fun _ _=>rfl)) (@zb _))) (@uy _ _ _ _ _ _ _ (zj v0 (hr.mono (by decide)) rfl (za (@z0 _ _ _ _ _ _ _ yq (pv 0) (@zi _ _ _ _) (fun _ _=>rfl)) (za (uc rfl B.k_MOST_WORDS) (@zb _)))) (@u9 _ _ _ _ _ (zj la (hr.mono (by decide)) rfl (za (@z0 _ _ _ _ _ _ _ yq (pv 0) (@zi _ _ _ _) (fun _ _=>rfl)) (za (zx yf rfl B.len xi (za (@z0 _ _ _ _ _ _ _ yq (pv 0) (@zi _ _ _ _) (fun _ _=>rfl)) (@zb _))) (za (pv 1) (@zb _))))))))))),?_⟩;rw[show start ["thing", "width"] [V.ref x.t,V.int n]=[some (V.ref x.t),some (V.int n)] from rfl];simp only[zg,zh,↓reduceIte];refine⟨_,.tup hx.tup,true,zk7,iteF ⟨_,.inr (.of hx.tup),rfl,zfs rfl ?_⟩⟩;refine⟨_,.of hx.tup,_,zy (j:=0) rfl,d.name,rfl,g.name,fun H1 S1 => ?_⟩;have hx1:=hx.mono S1;refine⟨_,rfl,iteT ⟨_,.of hx1.tup,_,zy (j:=1) rfl,x.w,d.words,8,rfl,hx1.words,g.words.1,g.words.2,Zm _,g.wordsG,g.wordsD,fun H2 S2 => ?_⟩⟩;have hx2:=hx1.mono S2;refine⟨_,rfl,iteT ⟨_,.of hx2.tup,_,zy (j:=2) rfl,_,.of hx2.tup,_,zy (j:=1) rfl,x.w,rfl,_,.inl (.of hx2.words),?_⟩⟩;rw[Za];have hw:=g.words.2;have hr2:=g.rows;exact⟨x.g,x.gs,d.worths,d.words.length,n,rfl,hx2.grid,by rw[hx2.len];exact hr2,hr2,hw,n8,hx2.row,g.cols,fun H3 S3=>q H3 (S1.trans (S2.trans S3))⟩
theorem oq (D:zc K mg "name_of" ka ["hand"]):FnAt P w K mg base "name_of" 1 ["hand"] (km fun _ d=>.str d.name):=by
  refine FnAt.of D zgs (fun vs H Q E h => ?_) (fun f cdv A outer s H vs Q E hr h => ?_)
  . obtain⟨x,d,rfl,_⟩:=h
    rfl
  . obtain⟨x,d,rfl,hx,q⟩:=h
    refine⟨_,(@zd _ _ _ (@zp _ _ _ _ (@z0 _ _ _ _ _ _ _ yq (pv 0) (@zi _ _ _ _) (fun _ _=>rfl)))),?_⟩;rw[show start ["hand"] [V.ref x.t]=[some (V.ref x.t)] from rfl];simp only[zg,zh,↓reduceIte];exact⟨_,.of hx.tup,_,zy (j:=0) rfl,q⟩
theorem y9 (D:zc K mg "words_of_hand" w6 ["hand"]):FnAt P w K mg base "words_of_hand" 1 ["hand"] (km fun x _=>.ref x.w):=by
  refine FnAt.of D lj (fun vs H Q E h => ?_) (fun f cdv A outer s H vs Q E hr h => ?_)
  . obtain⟨x,d,rfl,_⟩:=h
    rfl
  . obtain⟨x,d,rfl,hx,q⟩:=h
    refine⟨_,(@zd _ _ _ (@zp _ _ _ _ (@z0 _ _ _ _ _ _ _ yq (pv 0) (@zi _ _ _ _) (fun _ _=>rfl)))),?_⟩;rw[show start ["hand"] [V.ref x.t]=[some (V.ref x.t)] from rfl];simp only[zg,zh,↓reduceIte];exact⟨_,.of hx.tup,_,zy (j:=1) rfl,q⟩
theorem wu (D:zc K mg "worths_of_hand" wv ["hand"]):FnAt P w K mg base "worths_of_hand" 1 ["hand"] (km fun x _=>.ref x.g):=by
  refine FnAt.of D o7 (fun vs H Q E h => ?_) (fun f cdv A outer s H vs Q E hr h => ?_)
  . obtain⟨x,d,rfl,_⟩:=h
    rfl
  . obtain⟨x,d,rfl,hx,q⟩:=h
    refine⟨_,(@zd _ _ _ (@zp _ _ _ _ (@z0 _ _ _ _ _ _ _ yq (pv 0) (@zi _ _ _ _) (fun _ _=>rfl)))),?_⟩;rw[show start ["hand"] [V.ref x.t]=[some (V.ref x.t)] from rfl];simp only[zg,zh,↓reduceIte];exact⟨_,.of hx.tup,_,zy (j:=2) rfl,q⟩
theorem rh (B:Bt mg) (y9:FnAt P w K mg base "words_of_hand" 1 ["hand"] (km fun x _=>.ref x.w)) (D:zc K mg "count_of_rows" v5 ["hands"]):FnAt P w K mg base "count_of_rows" 2 ["hands"] zhe:=by
  refine FnAt.of D sc_count_of_rows (fun vs H Q E h => ?_) (fun f cdv A outer s H vs Q E hr h => ?_)
  . obtain⟨b,xs,ds,rfl,_⟩:=h
    rfl
  . obtain⟨b,xs,ds,rfl,hh,h8,h4,q⟩:=h
    refine⟨_,(@ze _ _ _ _ _ (zz (i:=1) sc_count_of_rows.nd rfl (Or.inl rfl) (@zi _ _ _ _)) (@ze _ _ _ _ _ (xp PassesOwn.never rfl (@ye _ _ _ _ (pv 0)) (zw (i:=2) sc_count_of_rows.nd rfl (Or.inl rfl)) (@zd _ _ _ (zz (i:=1) sc_count_of_rows.nd rfl (Or.inl rfl) (@zt _ _ _ _ _ _ _ _ iy (pv 1) (zx yf rfl B.len xi (za (zj y9 (hr.mono (by decide)) rfl (za (pv 2) (@zb _))) (@zb _))))))) (@zd _ _ _ (@zp _ _ _ _ (pv 1))))),?_⟩;rw[show start ["hands", "count", "hand"] [V.ref b]=[some (V.ref b),none,none] from rfl];simp only[zg,zh,↓reduceIte];refine⟨⟨_,.of hh.at'⟩,?_⟩;refine wn (xs:=xs.map fun x=>V.ref x.t) (PvCt H b ds) ⟨rfl,_,rfl⟩ ?_ ?_ ?_
    . rintro i σ H4 hi ⟨rfl,v,rfl⟩
      exact .of hh.at'
    . rintro i x σ H4 hx ⟨rfl,v,rfl⟩
      obtain⟨y,hy,rfl⟩:=yu hx;have hi:i<ds.length:=by have:=(Zc.mp hy).1;have:=hh.len;omega
      have e2:ds[i]? = some ds[i]:=by simp[hi]
      have hd:=hh.hand i y ds[i] hy e2;have hw:=h8 ds[i] (Zl hi);simp only[zg,zh,↓reduceIte];refine⟨y,ds[i],rfl,hd,?_⟩;simp only[zg,zh,↓reduceIte];refine⟨_,.inl (.of hd.words),?_⟩;rw[Za];refine⟨.inr ⟨by omega,by omega⟩,rfl,some (V.ref y.t),?_⟩;rw[Zq,e2,Zn,List.prod_append];simp only[Option.toList,ZM,Yi,List.prod_cons,List.prod_nil,Nat.mul_one,Int.natCast_mul]
    . rintro σ H4 ⟨rfl,v,rfl⟩
      simp only[zg,zh,↓reduceIte];rw[Za,hh.len,Zt];exact q
def zcd:Sp:=fun vs H Q _=>∃(b:Addr) (xs:List HX) (ds:List HD),vs=[.ref b]/\HandsL H b xs ds/\ds.length<=4/\∀l,H l=none->Q (.ref l) (upd H l (.lst ((ds.map HD.name).map V.str)))
theorem j9 (oq:FnAt P w K mg base "name_of" 1 ["hand"] (km fun _ d=>.str d.name)) (D:zc K mg "names_of" ni ["hands"]):FnAt P w K mg base "names_of" 2 ["hands"] zcd:=by
  refine FnAt.of D zd7 (fun vs H Q E h => ?_) (fun f cdv A outer s H vs Q E hr h => ?_)
  . obtain⟨b,xs,ds,rfl,_⟩:=h
    rfl
  . obtain⟨b,xs,ds,rfl,hh3,g4,q⟩:=h
    refine⟨_,(@zd _ _ _ (@zp _ _ _ _ (yj ["hand"] ["hands"] rfl (@pi_seq _ _ _ _ (pv 0)) (fun _=>(zw (i:=0) (show(["hand", "hands"]:List Str).Nodup by decide +kernel) rfl (Or.inl rfl))) (fun _=>(@yi _)) (fun _=>(zj oq (hr.mono (by decide)) rfl (za (pv 0) (@zb _)))) rfl (by decide +kernel) rfl rfl))),?_⟩;rw[show start ["hands"] [V.ref b]=[some (V.ref b)] from rfl];simp only[zg,zh,↓reduceIte];refine .inl ⟨⟨_,.of hh3.at'⟩,fun d2 => ?_⟩;refine ym (xs:=xs.map fun x=>V.ref x.t) (PvNm H ds) ⟨rfl,rfl⟩ ?_ ?_ ?_
    . rintro i ys H4 hi ⟨rfl,rfl⟩
      refine⟨?_,.of hh3.at'⟩;rw[Za,Za,Zj];exact Zd (ZB _ _) (Zd g4 (by decide))
    . rintro i x ys H4 hx ⟨rfl,rfl⟩
      obtain⟨y,hy,rfl⟩:=yu hx;have hi:i<ds.length:=by have:=(Zc.mp hy).1;have:=hh3.len;omega
      have e2:ds[i]? = some ds[i]:=by simp[hi]
      simp only[zg,zh,↓reduceIte];refine⟨y,ds[i],rfl,hh3.hand i y ds[i] hy e2,rfl,?_⟩;rw[Zq,e2,Zn,Zn];rfl
    . rintro ys H4 ⟨rfl,rfl⟩ l hl
      rw[Za,hh3.len,Zt];exact q l hl
theorem oz (B:Bt mg) (v0:FnAt P w K mg base "are_names" 2 ["thing", "most"] zcy) (ge:FnAt P w K mg base "is_hand" 5 ["thing", "width"] qHand) (j9:FnAt P w K mg base "names_of" 2 ["hands"] zcd) (rh:FnAt P w K mg base "count_of_rows" 2 ["hands"] zhe)
    (D:zc K mg "makes_house" tu ["outcomes", "hands"]):FnAt P w K mg base "makes_house" 6 ["outcomes", "hands"] zin:=by
  refine FnAt.of D av (fun vs H Q E h => ?_) (fun f cdv A outer s H vs Q E hr h => ?_)
  . obtain⟨o,b,outs,xs,ds,rfl,_⟩:=h
    rfl
  . obtain⟨o,b,outs,xs,ds,rfl,ho,hh,g,q⟩:=h
    refine⟨_,(@ze _ _ _ _ _ (@yh _ _ _ _ _ _ _ _ (PW.pt (@ui _ _ _ _ _ _ _ (@yv _ _ _ _ (yx (zj v0 (hr.mono (by decide)) rfl (za (pv 0) (za (uc rfl B.k_MOST_OUTCOMES) (@zb _)))))) (@vq _ _ _ _ (@yv _ _ _ _ (yx (zx xv rfl B.isinstance yk (za (pv 1) (za (t9 rfl B.list ml) (@zb _))))))))) (@zd _ _ _ (@zp _ _ _ _ (@yz _ _ _ _))) (@z7 _)) (@ze _ _ _ _ _ (@yh _ _ _ _ _ _ _ _ (@yv _ _ _ _ (yx (zx (ub rfl) rfl B.all ll (za (yj ["hand"] ["outcomes", "hands"] rfl (@ye _ _ _ _ (pv 1)) (fun _=>(zw (i:=0) (show(["hand", "outcomes", "hands"]:List Str).Nodup by decide +kernel) rfl (Or.inl rfl))) (fun _=>(@yi _)) (fun _=>(zj ge (hr.mono (by decide)) rfl (za (pv 0) (za (zx yf rfl B.len xi (za (pv 1) (@zb _))) (@zb _))))) rfl (by decide +kernel) rfl rfl) (@zb _))))) (@zd _ _ _ (@zp _ _ _ _ (@yz _ _ _ _))) (@z7 _)) (@zd _ _ _ (@zp _ _ _ _ (@uy _ _ _ _ _ _ _ (zj v0 (hr.mono (by decide)) rfl (za (zj j9 (hr.mono (by decide)) rfl (za (pv 1) (@zb _))) (za (uc rfl B.k_MOST_HANDS) (@zb _)))) (@u9 _ _ _ _ _ (@um _ _ _ _ _ _ _ _ j8 (zj rh (hr.mono (by decide)) rfl (za (pv 1) (@zb _))) (uc rfl B.k_MOST_ROWS) (yd _)))))))),?_⟩;rw[show start ["outcomes", "hands"] [V.ref o,V.ref b]=[some (V.ref o),some (V.ref b)] from rfl];simp only[zg,zh,↓reduceIte];have g1:=g.outs1;have g2:=g.hands;refine⟨o,outs,8,rfl,ho,g1.1,g1.2,Zm _,g.outsG,g.outsD,fun H1 S1 => ?_⟩;simp only[zg,zh,↓reduceIte];have hh1:=hh.mono S1;have ho1:=S1 _ _ ho;refine iteF ⟨_,.lst hh1.at',true,fb,iteF ⟨⟨_,.of hh1.at'⟩,fun d => ?_⟩⟩;refine ym (xs:=xs.map fun x=>V.ref x.t) (PvAT H1) ⟨Same.refl _,rfl⟩ ?_ ?_ ?_
    . rintro i ys H2 hi ⟨S,rfl⟩
      rw[Za,hh.len]at hi;exact⟨by rw[sg];exact Zd hi (Zd g2.2 (by decide)),S.seq (.of hh1.at')⟩
    . rintro i x ys H2 hx ⟨S,rfl⟩
      obtain⟨y,hy,rfl⟩:=yu hx;have hi:i<ds.length:=by have:=(Zc.mp hy).1;have:=hh.len;omega
      have e2:ds[i]? = some ds[i]:=by simp[hi]
      simp only[zg,zh,↓reduceIte];refine⟨_,.inl (S.seq (.of ho1)),?_⟩;rw[Za];exact⟨y,ds[i],outs.length,rfl,(hh1.hand i y ds[i] hy e2).mono S,g.hand (Zl hi),g1.2,fun H3 S3=>⟨S.trans S3,ud i⟩⟩
    . rintro ys H2 ⟨S,rfl⟩ p hp
      have S2:Same H1 (upd H2 p (.lst ((allT (xs.map fun x=>V.ref x.t).length).map V.bl))):=S.trans (Same.upd (Same.refl _) hp);refine⟨_,.of zn,?_⟩;rw[sh];generalize upd H2 p (.lst ((allT (xs.map fun x=>V.ref x.t).length).map V.bl))=H3 at *;have hh3:=hh1.mono S2;refine iteF ⟨b,xs,ds,rfl,hh3,g2.2,fun l hl => ?_⟩;have S5:Same H3 (upd H3 l (.lst ((ds.map HD.name).map V.str))):=Same.upd (Same.refl _) hl;refine⟨l,ds.map HD.name,4,rfl,zn,by rw[Za];exact g2.1,by rw[Za];exact g2.2,by decide,fun z hz => ?_,g.handsD,fun H6 S6 => ?_⟩
      . obtain⟨d,hd,rfl⟩:=Zp.mp hz
        exact g.handsG d hd
      . generalize upd H3 l (.lst ((ds.map HD.name).map V.str))=H5 at *
        have S36:=S5.trans S6;have few:=g.few;refine⟨_,rfl,iteT ⟨b,xs,ds,rfl,hh3.mono S36,fun d hd=>(g.words1 d hd).2,g2.2,_,rfl,?_⟩⟩;rw[decide_eq_true (by omega)];exact q _ (S1.trans (S2.trans S36))
end
section
variable{α:Type}
def x9(r:List α)(ws:List α):List (List α):=ws.map fun w=>r++[w]
def x5(rs:List (List α))(ws:List α):List (List α):=(rs.map fun r=>x9 r ws).flatten
def yl(wss:List (List α)):List (List α):=wss.foldl x5 [[]]
theorem zgq(wss:List (List α))(ws:List α):yl (wss++[ws])=x5 (yl wss) ws:=by simp[yl]
theorem cy(r:List α)(rs:List (List α))(ws:List α):x5 (r::rs) ws=x9 r ws++x5 rs ws:=by simp[x5]
theorem br(rs:List (List α))(r:List α)(ws:List α):x5 (rs++[r]) ws=x5 rs ws++x9 r ws:=by simp[x5]
theorem oh(r:List α)(ws:List α):(x9 r ws).length=ws.length:=by simp[x9]
theorem lm(ws:List α):∀rs:List (List α),(x5 rs ws).length=rs.length*ws.length
  | []=>by simp[x5]
  | r::rs=>by rw[cy,Zo,oh,lm ws rs,ZL,Nat.succ_mul,Nat.add_comm]
theorem uv{wss:List (List α)}{j:Nat}{ws:List α}(h:wss[j]? = some ws):yl (wss.take (j+1))=x5 (yl (wss.take j)) ws:=by
  rw[Zq,h];exact zgq _ _
theorem ix{rs:List (List α)}{ws:List α}{row:List α}(h:row∈x5 rs ws):∃r w,r∈rs/\w∈ws/\row=r++[w]:=by
  simp only[x5,x9,Xa,Zp]at h;obtain⟨l,⟨r,hr,rfl⟩,h⟩:=h;obtain⟨w,hw,rfl⟩:=Zp.mp h;exact⟨r,w,hr,hw,rfl⟩
theorem ef(wss:List (List α)):∀n,n<=wss.length->∀row∈yl (wss.take n),row.length=n:=by
  intro n
  induction n with
  | zero=>intro _ row h;simp[yl]at h;simp[h]
  | succ n ih =>
    intro h row hr;have e:wss[n]? = some wss[n]:=Zb (by omega);rw[uv e]at hr;obtain⟨r,w,h1,_,rfl⟩:=ix hr;simp[ih (by omega) r h1]
end
structure TupsAt(H:Hp)(as:List Addr)(rs:List (List Str)):Prop where
  len:as.length=rs.length
  at':∀(i:Nat) (a:Addr) (r:List Str),as[i]? = some a->rs[i]? = some r->H a=some (.tup (r.map V.str))
theorem TupsAt.nil{H:Hp}:TupsAt H [] []:=⟨rfl,fun i a r e=>by simp at e⟩
theorem TupsAt.mono{H H':Hp}{as:List Addr}{rs:List (List Str)}(S:Same H H')(h:TupsAt H as rs):TupsAt H' as rs:=⟨h.len,fun i a r e1 e2=>S _ _ (h.at' i a r e1 e2)⟩
theorem TupsAt.append{H:Hp}{as bs:List Addr}{rs qs:List (List Str)}(h1:TupsAt H as rs)(h2:TupsAt H bs qs):TupsAt H (as++bs) (rs++qs):=by
  refine⟨by simp[h1.len,h2.len],fun i a r e1 e2 => ?_⟩
  by_cases hi:i<as.length
  . rw[Zg hi]at e1
    rw[Zg (by rw[<-h1.len];exact hi)]at e2;exact h1.at' i a r e1 e2
  . rw[Zf (ZD.mp hi)]at e1
    rw[Zf (by rw[<-h1.len];exact ZD.mp hi)]at e2;rw[h1.len]at e1;exact h2.at' _ a r e1 e2
theorem TupsAt.one{H:Hp}{a:Addr}{r:List Str}(h:H a=some (.tup (r.map V.str))):TupsAt H [a] [r]:=⟨rfl,fun i b q e1 e2=>by
  cases i with
  | zero =>
    simp at e1 e2;subst e1 e2;exact h
  | succ i=>simp at e1⟩
theorem TupsAt.past{H:Hp}{p:Addr}{xs ys:List V}{as:List Addr}{rs:List (List Str)}(hp:H p=some (.lst xs))(h:TupsAt H as rs):TupsAt (upd H p (.lst ys)) as rs :=
  ⟨h.len,fun i a r e1 e2=>by
    have:=h.at' i a r e1 e2;rw[z8 (fun e=>by rw[e,hp]at this;cases this)]
    exact this⟩
structure RwsAt(H:Hp)(l:Addr)(as:List Addr)(rs:List (List Str)):Prop where
  lst:H l=some (.lst (as.map V.ref))
  tups:TupsAt H as rs
theorem RwsAt.mono{H H':Hp}{l:Addr}{as:List Addr}{rs:List (List Str)}(S:Same H H')(h:RwsAt H l as rs):RwsAt H' l as rs:=⟨S _ _ h.lst,h.tups.mono S⟩
structure KHand(K:Fg)(H:Hp)(t:Addr)(d:HD)(w g:Addr)(gs:List Addr):Prop where
  tup:SqT K H t [.str d.name,.ref w,.ref g]
  words:SqT K H w (d.words.map V.str)
  grid:SqT K H g (gs.map V.ref)
  len:gs.length=d.worths.length
  row:∀(i:Nat) (r:Addr) (ns:List Int),gs[i]? = some r->d.worths[i]? = some ns->SqT K H r (ns.map V.int)
def KHands(K:Fg)(H:Hp)(hs:List Addr)(ds:List HD):Prop:=hs.length=ds.length/\∀(i:Nat) (t:Addr) (d:HD),hs[i]? = some t->ds[i]? = some d->∃w g gs,KHand K H t d w g gs
structure zhu(K:Fg)(H:Hp)(p o h:Addr)(hs:List Addr)(outs:List Str)(ds:List HD):Prop where
  tup:SqT K H p [.ref o,.ref h]
  outs:SqT K H o (outs.map V.str)
  hands:SqT K H h (hs.map V.ref)
  hand:KHands K H hs ds
theorem KHand.mono{K:Fg}{H H':Hp}{t:Addr}{d:HD}{w g:Addr}{gs:List Addr}(S:Same H H')(h:KHand K H t d w g gs):KHand K H' t d w g gs :=
  ⟨S.seqT h.tup,S.seqT h.words,S.seqT h.grid,h.len,fun i r ns e1 e2=>S.seqT (h.row i r ns e1 e2)⟩
theorem KHands.mono{K:Fg}{H H':Hp}{hs:List Addr}{ds:List HD}(S:Same H H')(h:KHands K H hs ds):KHands K H' hs ds :=
  ⟨h.1,fun i t d e1 e2=>by
    obtain⟨w,g,gs,q⟩:=h.2 i t d e1 e2
    exact⟨w,g,gs,q.mono S⟩⟩
def uq(K:Fg)(j:Nat):Sp:=fun vs H Q _=>∃(t:Addr) (us:List V) (v:V),vs=[.ref t]/\SqT K H t us/\us[j]? = some v/\Q v H
def zh5(K:Fg):Sp:=fun vs H Q _=>∃(l wd:Addr) (as:List Addr) (rs:List (List Str)) (ws:List Str),vs=[.ref l,.ref wd]/\RwsAt H l as rs/\SqT K H wd (ws.map V.str)/\rs.length<=4096/\ws.length<=8/\(∀r∈rs,r.length<=8) /\
  ∀H' l' as',Same H H'->H l'=none->RwsAt H' l' as' (x5 rs ws)->Q (.ref l') H'
def PvEach(l wd p:Addr)(rs:List (List Str))(ws:List Str)(H:Hp)(i:Nat)(σ:L2.St)(H':Hp):Prop:=∃(as':List Addr) (v:Option V),H' p=some (.lst (as'.map V.ref))/\TupsAt H' as' (x5 (rs.take i) ws)/\Same H H'/\σ=[some (.ref l),some (.ref wd),some (.ref p),v]
def PvLong(r ws:List Str)(H:Hp)(i:Nat)(ys:List V)(H':Hp):Prop:=∃as':List Addr,ys=as'.map V.ref/\TupsAt H' as' (x9 r (ws.take i))/\Same H H'
def zg3(K:Fg):Sp:=fun vs H Q _=>∃(h:Addr) (hs:List Addr) (ds:List HD),vs=[.ref h]/\SqT K H h (hs.map V.ref)/\KHands K H hs ds/\ds.length<=4/\(∀d∈ds,d.words.length<=8) /\
  ∀H' l as,Same H H'->H l=none->RwsAt H' l as (yl (ds.map HD.words))->Q (.ref l) H'
def PvOver(h:Addr)(ds:List HD)(H:Hp)(i:Nat)(σ:L2.St)(H':Hp):Prop:=∃(l:Addr) (as:List Addr) (v:Option V),H l=none/\RwsAt H' l as (yl ((ds.map HD.words).take i))/\Same H H'/\σ=[some (.ref h),some (.ref l),v]
def de(K:Fg):Sp:=fun vs H Q _=>∃(p o h:Addr) (hs:List Addr) (outs:List Str) (ds:List HD),vs=[.ref p]/\zhu K H p o h hs outs ds/\ds.length<=4/\(∀d∈ds,d.words.length<=8) /\
  ∀H' l as,Same H H'->H l=none->RwsAt H' l as (yl (ds.map HD.words))->Q (.ref l) H'
theorem ju{wss:List (List Str)}(h4:wss.length<=4)(h8:∀ws∈wss,ws.length<=8)(n:Nat)(hn:n<=wss.length):(yl (wss.take n)).length<=4096:=by
  have:∀m,m<=wss.length->(yl (wss.take m)).length<=8^m:=by
    intro m
    induction m with
    | zero=>intro _;exact Zm _
    | succ m ih =>
      intro h;have e:wss[m]? = some wss[m]:=Zb (by omega);rw[uv e,lm,Nat.pow_succ];exact YM (ih (by omega)) (h8 _ (Zl (by omega)))
  exact Zd (this n hn) (Nat.pow_le_pow_right (by decide) (show n<=4 by omega))
section
variable{P:Program}{w:World}{K:Fg}{mg:Str->Option Value}{base:Heap}
theorem zfx (D:zc K mg "hands_of" n0 ["house"]):FnAt P w K mg base "hands_of" 1 ["house"] (uq K 1):=by
  refine FnAt.of D zej (fun vs H Q E h => ?_) (fun f cdv A outer s H vs Q E hr h => ?_)
  . obtain⟨t,us,v,rfl,_⟩:=h
    rfl
  . obtain⟨t,us,v,rfl,ht,e,q⟩:=h
    refine⟨_,(@zd _ _ _ (@zp _ _ _ _ (@z0 _ _ _ _ _ _ _ yq (pv 0) (@zi _ _ _ _) (fun _ _=>rfl)))),?_⟩;rw[show start ["house"] [V.ref t]=[some (V.ref t)] from rfl];simp only[zg,zh,↓reduceIte];exact⟨_,ht,_,zy (j:=1) e,q⟩
theorem ci (D:zc K mg "words_of_hand" w6 ["hand"]):FnAt P w K mg base "words_of_hand" 1 ["hand"] (uq K 1):=by
  refine FnAt.of D lj (fun vs H Q E h => ?_) (fun f cdv A outer s H vs Q E hr h => ?_)
  . obtain⟨t,us,v,rfl,_⟩:=h
    rfl
  . obtain⟨t,us,v,rfl,ht,e,q⟩:=h
    refine⟨_,(@zd _ _ _ (@zp _ _ _ _ (@z0 _ _ _ _ _ _ _ yq (pv 0) (@zi _ _ _ _) (fun _ _=>rfl)))),?_⟩;rw[show start ["hand"] [V.ref t]=[some (V.ref t)] from rfl];simp only[zg,zh,↓reduceIte];exact⟨_,ht,_,zy (j:=1) e,q⟩
theorem ku (B:Bt mg) (D:zc K mg "with_each" p6 ["rows", "words"]):FnAt P w K mg base "with_each" 1 ["rows", "words"] (zh5 K):=by
  refine FnAt.of D sc_with_each (fun vs H Q E h => ?_) (fun f cdv A outer s H vs Q E hr h => ?_)
  . obtain⟨l,wd,as,rs,ws,rfl,_⟩:=h
    rfl
  . obtain⟨l,wd,as,rs,ws,rfl,hR,hW,b1,b2,b3,q⟩:=h
    refine⟨_,(@ze _ _ _ _ _ (zz (i:=2) sc_with_each.nd rfl (Or.inl rfl) (@we _ _ _ _ (@zb _))) (@ze _ _ _ _ _ (xp PassesOwn.never rfl (@ye _ _ _ _ (pv 0)) (zw (i:=3) sc_with_each.nd rfl (Or.inr rfl)) (@zd _ _ _ (vx (y8 PySem.F.plainAttrs_list PySem.F.slot_list_extend PySem.F.type_list_extend ziu (pv 2) (za (yj ["word"] ["rows", "words", "longer", "row"] rfl (@zcl _ _ _ _ (pv 1)) (fun _=>(zw (i:=0) (show(["word", "rows", "words", "longer", "row"]:List Str).Nodup by decide +kernel) rfl (Or.inl rfl))) (fun _=>(@yi _)) (fun _=>(@zt _ _ _ _ _ _ _ _ zen (pv 4) (@xn _ _ _ _ _ (za (pv 0) (@zb _))))) rfl (by decide +kernel) rfl rfl) (@zb _)))))) (@zd _ _ _ (@zp _ _ _ _ (pv 2))))),?_⟩;rw[show start ["rows", "words", "longer", "row"] [V.ref l,V.ref wd]=[some (V.ref l),some (V.ref wd),none,none] from rfl];simp only[zg,zh,↓reduceIte];refine⟨by decide,fun p hp => ?_⟩;have S1:Same H (upd H p (.lst [])):=Same.upd (Same.refl _) hp;refine⟨⟨_,.of (S1 _ _ hR.lst)⟩,?_⟩;refine wn (xs:=as.map V.ref) (PvEach l wd p rs ws H) ⟨[],_,zn,TupsAt.nil,S1,rfl⟩ ?_ ?_ ?_
    . rintro i σ H' hi ⟨as',v,h1,h2,S,rfl⟩
      exact .of (S _ _ hR.lst)
    . rintro i x σ H' hx ⟨as',v,h1,h2,S,rfl⟩
      obtain⟨a,ha,rfl⟩:=yu hx;have hi:i<rs.length:=by have:=(Zc.mp ha).1;have:=hR.tups.len;omega
      have er:rs[i]? = some rs[i]:=Zb hi;have hrow:=hR.tups.at' i a _ ha er;have hr8:=b3 _ (Zl hi);simp only[zg,zh,↓reduceIte];refine⟨.inl ⟨rfl,_,.of h1⟩,⟨_,S.seqT hW⟩,fun d => ?_⟩;refine zcr (xs:=ws.map V.str) (PvLong rs[i] ws H') ⟨[],rfl,TupsAt.nil,Same.refl _⟩ ?_ ?_ ?_
      . rintro j ys H2 hj ⟨bs,rfl,t2,S2⟩
        refine⟨?_,S2.seqT (S.seqT hW)⟩;rw[Za,t2.len,oh,Zj];exact Zd (ZB _ _) (Zd b2 (by decide))
      . rintro j y ys H2 hy ⟨bs,rfl,t2,S2⟩
        obtain⟨z,hz,rfl⟩:=yu hy;simp only[zg,zh,↓reduceIte];refine⟨by decide,fun c hc => ?_⟩;have S3:Same H2 (upd H2 c (.tup [V.str z])):=Same.upd (Same.refl _) hc;refine⟨_,(S.trans (S2.trans S3)) _ _ hrow,_,zn,?_,fun H4 e S4 he => ?_⟩
        . rw[Za]
          exact Zd (show _<=9 by simp;omega) (by decide)
        . refine⟨bs++[e],by simp,?_,S2.trans (S3.trans S4)⟩
          rw[Zq,hz]
          show TupsAt H4 (bs++[e]) (x9 _ (ws.take j++[z]))
          rw[x9,Zn];exact(t2.mono (S3.trans S4)).append (TupsAt.one (by rw[he];simp))
      . rintro ys H2 ⟨bs,rfl,t2,S2⟩ l2 hl2
        rw[Za,Zt]at t2;obtain⟨S3,h3⟩:=lay hl2 (.lst (bs.map V.ref));generalize upd H2 l2 (.lst (bs.map V.ref))=H3 at *;have hp3:=(S2.trans S3) _ _ h1;refine⟨_,hp3,_,h3,?_,?_⟩
        . rw[Za,Za,h2.len,t2.len,oh,lm,Zj]
          have:min i rs.length*ws.length<=4096*8:=YM (by omega) b2;exact Zd (show _<=4096*8+8 by omega) (by decide)
        . refine⟨as'++bs,_,by rw[zn,Zn],?_,Same.upd (S.trans (S2.trans S3)) hp,rfl⟩
          rw[Zq,er]
          show TupsAt _ _ (x5 (rs.take i++[rs[i]]) ws)
          rw[br];exact((h2.mono (S2.trans S3)).append (t2.mono S3)).past hp3
    . rintro σ H' ⟨as',v,h1,h2,S,rfl⟩
      simp only[zg,zh,↓reduceIte];rw[Za,hR.tups.len,Zt]at h2;exact q H' p as' S hp ⟨h1,h2⟩
theorem kq (B:Bt mg) (ku:FnAt P w K mg base "with_each" 1 ["rows", "words"] (zh5 K)) (y9:FnAt P w K mg base "words_of_hand" 1 ["hand"] (uq K 1)) (D:zc K mg "rows_over" ph ["hands"]):FnAt P w K mg base "rows_over" 2 ["hands"] (zg3 K):=by
  refine FnAt.of D sc_rows_over (fun vs H Q E h => ?_) (fun f cdv A outer s H vs Q E hr h => ?_)
  . obtain⟨b,hs,ds,rfl,_⟩:=h
    rfl
  . obtain⟨b,hs,ds,rfl,hH,hK,h4,h8,q⟩:=h
    refine⟨_,(@ze _ _ _ _ _ (@zz _ _ 1 _ _ _ _ sc_rows_over.nd rfl (Or.inl rfl) (@we _ _ _ _ (@za _ _ _ _ _ (@xn _ _ _ _ _ (@zb _)) (@zb _) (zk nofun))) rfl (Or.inl rfl)) (@ze _ _ _ _ _ (xp PassesOwn.never rfl (@zcl _ _ _ _ (pv 0)) (zw (i:=2) sc_rows_over.nd rfl (Or.inl rfl)) (@zd _ _ _ (zz (i:=1) sc_rows_over.nd rfl (Or.inl rfl) (zj ku (hr.mono (by decide)) rfl (za (pv 1) (za (zj y9 (hr.mono (by decide)) rfl (za (pv 2) (@zb _))) (@zb _))))))) (@zd _ _ _ (@zp _ _ _ _ (pv 1))))),?_⟩;rw[show start ["hands", "rows", "hand"] [V.ref b]=[some (V.ref b),none,none] from rfl];simp only[zg,zh,↓reduceIte];refine⟨by decide,fun c hc=>⟨by decide,fun p hp => ?_⟩⟩;obtain⟨S1,h1⟩:=lay hc (.tup []);generalize upd H c (.tup [])=H1 at *;obtain⟨S2,h2⟩:=lay hp (.lst [V.ref c]);generalize upd H1 p (.lst [V.ref c])=H2 at *;have S:=S1.trans S2;refine⟨⟨_,S.seqT hH⟩,?_⟩;refine zlm (xs:=hs.map V.ref) (PvOver b ds H) ⟨p,[c],_,S1.free hp,⟨h2,TupsAt.one (S2 _ _ h1)⟩,S,rfl⟩ ?_ ?_ ?_
    . rintro i σ H' hi ⟨l,as,v,hl,hR,S',rfl⟩
      exact S'.seqT hH
    . rintro i x σ H' hx ⟨l,as,v,hl,hR,S',rfl⟩
      obtain⟨t,ht,rfl⟩:=yu hx;have hi:i<ds.length:=by have:=(Zc.mp ht).1;have:=hK.1;omega
      have ed:ds[i]? = some ds[i]:=Zb hi;obtain⟨wd,g,gs,hd⟩:=(hK.mono S').2 i t _ ht ed;simp only[zg,zh,↓reduceIte];refine⟨t,_,_,rfl,hd.tup,rfl,?_⟩;have ew:(ds.map HD.words)[i]? = some ds[i].words:=by rw[Ze,ed];rfl
      have hb:∀r∈yl ((ds.map HD.words).take i),r.length<=8:=fun r hr=>by
        have:=ef (ds.map HD.words) i (by rw[Za];omega) r hr;omega
      refine⟨l,wd,as,_,ds[i].words,rfl,hR,hd.words,ju (by rw[Za];exact h4) (fun ws hws => ?_) i (by rw[Za];omega),h8 _ (Zl hi),hb,fun H3 l3 as3 S3 hl3 R3 => ?_⟩
      . obtain⟨d,hd,rfl⟩:=Zp.mp hws
        exact h8 d hd
      . simp only[zg,zh,↓reduceIte]
        refine⟨l3,as3,_,S'.free hl3,?_,S'.trans S3,rfl⟩;rw[uv ew];exact R3
    . rintro σ H' ⟨l,as,v,hl,hR,S',rfl⟩
      simp only[zg,zh,↓reduceIte];rw[Za,hK.1,ZG (by rw[Za];omega)]at hR;exact q H' l as S' hl hR
theorem oi (B:Bt mg) (kq:FnAt P w K mg base "rows_over" 2 ["hands"] (zg3 K)) (f_hands_of:FnAt P w K mg base "hands_of" 1 ["house"] (uq K 1)) (D:zc K mg "rows_of" kn ["house"]):FnAt P w K mg base "rows_of" 3 ["house"] (de K):=by
  refine FnAt.of D zf2 (fun vs H Q E h => ?_) (fun f cdv A outer s H vs Q E hr h => ?_)
  . obtain⟨p,o,a,hs,outs,ds,rfl,_⟩:=h
    rfl
  . obtain⟨p,o,a,hs,outs,ds,rfl,hH,h4,h8,q⟩:=h
    refine⟨_,(@zd _ _ _ (@zp _ _ _ _ (zj kq (hr.mono (by decide)) rfl (za (zj f_hands_of (hr.mono (by decide)) rfl (za (pv 0) (@zb _))) (@zb _))))),?_⟩;rw[show start ["house"] [V.ref p]=[some (V.ref p)] from rfl];simp only[zg,zh,↓reduceIte];exact⟨p,_,_,rfl,hH.tup,rfl,a,hs,ds,rfl,hH.hands,hH.hand,h4,h8,q⟩
end
structure HHand(H:Hp)(t:Addr)(d:HD)(w g:Addr)(gs:List Addr):Prop where
  tup:H t=some (.tup [.str d.name,.ref w,.ref g])
  words:H w=some (.tup (d.words.map V.str))
  grid:H g=some (.tup (gs.map V.ref))
  len:gs.length=d.worths.length
  row:∀(i:Nat) (r:Addr) (ns:List Int),gs[i]? = some r->d.worths[i]? = some ns->H r=some (.tup (ns.map V.int))
theorem HHand.mono{H H':Hp}{t:Addr}{d:HD}{w g:Addr}{gs:List Addr}(S:Same H H')(h:HHand H t d w g gs):HHand H' t d w g gs :=
  ⟨S _ _ h.tup,S _ _ h.words,S _ _ h.grid,h.len,fun i r ns e1 e2=>S _ _ (h.row i r ns e1 e2)⟩
theorem HHand.k{K:Fg}{H:Hp}{t:Addr}{d:HD}{w g:Addr}{gs:List Addr}(h:HHand H t d w g gs):KHand K H t d w g gs :=
  ⟨.of h.tup,.of h.words,.of h.grid,h.len,fun i r ns e1 e2=>.of (h.row i r ns e1 e2)⟩
def HHands(H:Hp)(hs:List Addr)(ds:List HD):Prop:=hs.length=ds.length/\∀(i:Nat) (t:Addr) (d:HD),hs[i]? = some t->ds[i]? = some d->∃w g gs,HHand H t d w g gs
theorem HHands.mono{H H':Hp}{hs:List Addr}{ds:List HD}(S:Same H H')(h:HHands H hs ds):HHands H' hs ds :=
  ⟨h.1,fun i t d e1 e2=>by
    obtain⟨w,g,gs,q⟩:=h.2 i t d e1 e2
    exact⟨w,g,gs,q.mono S⟩⟩
theorem HHands.snoc{H:Hp}{hs:List Addr}{ds:List HD}{t:Addr}{d:HD}{w g:Addr}{gs:List Addr}(h:HHands H hs ds)(q:HHand H t d w g gs):HHands H (hs++[t]) (ds++[d]):=by
  refine⟨by simp[h.1],fun i a e e1 e2 => ?_⟩
  by_cases hi:i<hs.length
  . rw[Zg hi]at e1
    rw[Zg (by rw[<-h.1];exact hi)]at e2;exact h.2 i a e e1 e2
  . rw[Zf (ZD.mp hi)]at e1
    rw[Zf (by rw[<-h.1];exact ZD.mp hi)]at e2
    have h0:i-hs.length=0:=by
      have:=(Zc.mp e1).1;simp at this;omega
    rw[h0]at e1;rw[<-h.1,h0]at e2;simp at e1 e2;subst e1 e2;exact⟨w,g,gs,q⟩
structure HHouse(H:Hp)(p o h:Addr)(hs:List Addr)(outs:List Str)(ds:List HD):Prop where
  tup:H p=some (.tup [.ref o,.ref h])
  outs:H o=some (.tup (outs.map V.str))
  hands:H h=some (.tup (hs.map V.ref))
  hand:HHands H hs ds
theorem HHouse.mono{H H':Hp}{p o h:Addr}{hs:List Addr}{outs:List Str}{ds:List HD}(S:Same H H')(q:HHouse H p o h hs outs ds):HHouse H' p o h hs outs ds :=
  ⟨S _ _ q.tup,S _ _ q.outs,S _ _ q.hands,q.hand.mono S⟩
theorem HHouse.k{K:Fg}{H:Hp}{p o h:Addr}{hs:List Addr}{outs:List Str}{ds:List HD}(q:HHouse H p o h hs outs ds):zhu K H p o h hs outs ds :=
  ⟨.of q.tup,.of q.outs,.of q.hands,q.hand.1,fun i t d e1 e2=>by
    obtain⟨w,g,gs,z⟩:=q.hand.2 i t d e1 e2
    exact⟨w,g,gs,z.k⟩⟩
structure IntTs(H:Hp)(ls:List Addr)(ps:List (List Int)):Prop where
  len:ls.length=ps.length
  at':∀(i:Nat) (l:Addr) (p:List Int),ls[i]? = some l->ps[i]? = some p->H l=some (.tup (p.map V.int))
theorem IntTs.mono{H H':Hp}{ls:List Addr}{ps:List (List Int)}(S:Same H H')(h:IntTs H ls ps):IntTs H' ls ps:=⟨h.len,fun i l p e1 e2=>S _ _ (h.at' i l p e1 e2)⟩
theorem IntTs.snoc{H:Hp}{ls:List Addr}{ps:List (List Int)}{l:Addr}{p:List Int}(h:IntTs H ls ps)(hl:H l=some (.tup (p.map V.int))):IntTs H (ls++[l]) (ps++[p]):=by
  refine⟨by simp[h.len],fun i a q e1 e2 => ?_⟩
  by_cases hi:i<ls.length
  . rw[Zg hi]at e1
    rw[Zg (by rw[<-h.len];exact hi)]at e2;exact h.at' i a q e1 e2
  . rw[Zf (ZD.mp hi)]at e1
    rw[Zf (by rw[<-h.len];exact ZD.mp hi)]at e2
    have h0:i-ls.length=0:=by
      have:=(Zc.mp e1).1;simp at this;omega
    rw[h0]at e1;rw[<-h.len,h0]at e2;simp at e1 e2;subst e1 e2;exact hl
def ziz:Sp:=fun vs H Q _=>∃(x:HX) (d:HD),vs=[.ref x.t]/\HandAt H x d/\d.worths.length<=8/\∀H' t w g gs,Same H H'->HHand H' t d w g gs->Q (.ref t) H'
def zda:Sp:=fun vs H Q _=>∃(o b:Addr) (outs:List Str) (xs:List HX) (ds:List HD),vs=[.ref o,.ref b]/\H o=some (.lst (outs.map V.str))/\HandsL H b xs ds/\GoodHouse outs ds/\∀H' p o' h hs,Same H H'->HHouse H' p o' h hs outs ds->Q (.ref p) H'
def PvEH(rows:List (List Int))(H1:Hp)(i:Nat)(ys:List V)(H':Hp):Prop:=Same H1 H'/\∃gs:List Addr,ys=gs.map V.ref/\IntTs H' gs (rows.take i)
def PvDH(ds:List HD)(H1:Hp)(i:Nat)(ys:List V)(H':Hp):Prop:=Same H1 H'/\∃hs:List Addr,ys=hs.map V.ref/\HHands H' hs (ds.take i)
section
variable{P:Program}{w:World}{K:Fg}{mg:Str->Option Value}{base:Heap}{a:Ad}
theorem zdw (B:Bt mg) (oq:FnAt P w K mg base "name_of" 1 ["hand"] (km fun _ d=>.str d.name)) (y9:FnAt P w K mg base "words_of_hand" 1 ["hand"] (km fun x _=>.ref x.w)) (wu:FnAt P w K mg base "worths_of_hand" 1 ["hand"] (km fun x _=>.ref x.g))
    (D:zc K mg "kept_hand" p0 ["hand"]):FnAt P w K mg base "kept_hand" 2 ["hand"] ziz:=by
  refine FnAt.of D sc_kept_hand (fun vs H Q E h => ?_) (fun f cdv A outer s H vs Q E hr h => ?_)
  . obtain⟨x,d,rfl,_⟩:=h
    rfl
  . obtain⟨x,d,rfl,hx,h8,q⟩:=h
    refine⟨_,(@ze _ _ _ _ _ (zz (i:=1) sc_kept_hand.nd rfl (Or.inl rfl) (y4 sw rfl B.tuple sm (za (yj ["row"] ["hand", "worths"] rfl (@ye _ _ _ _ (zj wu (hr.mono (by decide)) rfl (za (pv 0) (@zb _)))) (fun _=>(zw (i:=0) (show(["row", "hand", "worths"]:List Str).Nodup by decide +kernel) rfl (Or.inl rfl))) (fun _=>(@yi _)) (fun _=>(y4 sw rfl B.tuple sm (za (pv 0) (@zb _)))) rfl (by decide +kernel) rfl rfl) (@zb _)))) (@zd _ _ _ (@zp _ _ _ _ (@xn _ _ _ _ _ (za (zj oq (hr.mono (by decide)) rfl (za (pv 0) (@zb _))) (za (y4 sw rfl B.tuple sm (za (zj y9 (hr.mono (by decide)) rfl (za (pv 0) (@zb _))) (@zb _))) (za (pv 1) (@zb _)))))))),?_⟩;rw[show start ["hand", "worths"] [V.ref x.t]=[some (V.ref x.t),none] from rfl];simp only[zg,zh,↓reduceIte];refine⟨x,d,rfl,hx,?_⟩;simp only[zg,zh,↓reduceIte];refine⟨⟨_,.of hx.grid⟩,fun dd => ?_⟩;refine ym (xs:=x.gs.map V.ref) (PvEH d.worths H) ⟨Same.refl _,[],rfl,rfl,fun i l p e=>by simp at e⟩ ?_ ?_ ?_
    . rintro i ys H2 hi ⟨S,gs,rfl,ty⟩
      rw[Za,hx.len]at hi;have ly:gs.length=i:=by rw[ty.len,Zj];omega
      exact⟨by rw[Za,ly];exact Zd hi (Zd h8 (by decide)),S.seq (.of hx.grid)⟩
    . rintro i y ys H2 hy ⟨S,gs,rfl,ty⟩
      obtain⟨r,hr',rfl⟩:=yu hy;have hi:i<d.worths.length:=by have:=(Zc.mp hr').1;have:=hx.len;omega
      have e2:d.worths[i]? = some d.worths[i]:=by simp[hi]
      simp only[zg,zh,↓reduceIte];refine⟨_,S.seq (.of (hx.row i r _ hr' e2)),fun l hl => ?_⟩;have S3:Same H2 (upd H2 l (.tup ((d.worths[i]).map V.int))):=Same.upd (Same.refl _) hl;refine⟨S.trans S3,gs++[l],by simp,?_⟩;rw[Zq,e2];exact(ty.mono S3).snoc zn
    . rintro ys H2 ⟨S,gs,rfl,ty⟩ l hl
      rw[Za,hx.len,Zt]at ty;have S3:Same H2 (upd H2 l (.lst (gs.map V.ref))):=Same.upd (Same.refl _) hl;refine⟨_,.of zn,fun l1 hl1 => ?_⟩;generalize upd H2 l (.lst (gs.map V.ref))=H3 at *;obtain⟨S4,h4⟩:=lay hl1 (.tup (gs.map V.ref));generalize upd H3 l1 (.tup (gs.map V.ref))=H4 at *;have S24:=S.trans (S3.trans S4);refine⟨x,d,rfl,hx.mono S24,x,d,rfl,hx.mono S24,x.w,rfl,_,.of (hx.mono S24).words,fun l2 hl2=>⟨by decide,fun p hp => ?_⟩⟩;obtain⟨S5,h5⟩:=lay hl2 (.tup (d.words.map V.str));generalize upd H4 l2 (.tup (d.words.map V.str))=H5 at *;have S6:Same H5 (upd H5 p (.tup [V.str d.name,V.ref l2,V.ref l1])):=Same.upd (Same.refl _) hp;exact q _ p l2 l1 gs (S24.trans (S5.trans S6)) ⟨zn,S6 _ _ h5,(S5.trans S6) _ _ h4,ty.len,fun i r ns e1 e2=>(S3.trans (S4.trans (S5.trans S6))) _ _ (ty.at' i r ns e1 e2)⟩
theorem zgt (B:Bt mg) (C:Ct K mg a) (oz:FnAt P w K mg base "makes_house" 6 ["outcomes", "hands"] zin) (f_kept_hand:FnAt P w K mg base "kept_hand" 2 ["hand"] ziz) (D:zc K mg "house_of" nu ["outcomes", "hands"]):FnAtX P w K mg base "house_of" 7 ["outcomes", "hands"] zda:=by
  refine FnAtX.of D zdz (fun vs H Q E h => ?_) (fun f cdv A outer s H vs Q E hr h => ?_)
  . obtain⟨o,b,outs,xs,ds,rfl,_⟩:=h
    rfl
  . obtain⟨o,b,outs,xs,ds,rfl,ho,hh,g,q⟩:=h
    refine⟨_,(@ze _ _ _ _ _ (@yh _ _ _ _ _ _ _ _ (@yv _ _ _ _ (yx (zj oz (hr.mono (by decide)) rfl (za (pv 0) (za (pv 1) (@zb _)))))) (@zd _ _ _ (wa rfl C.q_NoHouse.toErr rfl C.m_NoHouse (y0 rfl) (za (@zm _ _ _ _) (@zb _)))) (@z7 _)) (@zd _ _ _ (PS.nox (@zp _ _ _ _ (@xn _ _ _ _ _ (za (y4 sw rfl B.tuple sm (za (pv 0) (@zb _))) (za (y4 sw rfl B.tuple sm (za (yj ["hand"] ["outcomes", "hands"] rfl (@ye _ _ _ _ (pv 1)) (fun _=>(zw (i:=0) (show(["hand", "outcomes", "hands"]:List Str).Nodup by decide +kernel) rfl (Or.inl rfl))) (fun _=>(@yi _)) (fun _=>(zj f_kept_hand (hr.mono (by decide)) rfl (za (pv 0) (@zb _)))) rfl (by decide +kernel) rfl rfl) (@zb _))) (@zb _)))))))),?_⟩;rw[show start ["outcomes", "hands"] [V.ref o,V.ref b]=[some (V.ref o),some (V.ref b)] from rfl];simp only[zg,zh,↓reduceIte];have g2:=g.hands;refine⟨o,b,outs,xs,ds,rfl,ho,hh,g,fun H1 S1 => ?_⟩;simp only[zg,zh,↓reduceIte];have hh1:=hh.mono S1;have ho1:=S1 _ _ ho;refine iteF ⟨_,.of ho1,fun l hl => ?_⟩;obtain⟨S2,h2⟩:=lay hl (.tup (outs.map V.str));generalize upd H1 l (.tup (outs.map V.str))=H2 at *;have hh2:=hh1.mono S2;refine⟨⟨_,.of hh2.at'⟩,fun d => ?_⟩;refine ym (xs:=xs.map fun x=>V.ref x.t) (PvDH ds H2) ⟨Same.refl _,[],rfl,rfl,fun i t d e=>by simp at e⟩ ?_ ?_ ?_
    . rintro i ys H3 hi ⟨S,hs,rfl,ty⟩
      rw[Za,hh.len]at hi;have ly:hs.length=i:=by rw[ty.1,Zj];omega
      exact⟨by rw[Za,ly];exact Zd hi (Zd g2.2 (by decide)),S.seq (.of hh2.at')⟩
    . rintro i y ys H3 hy ⟨S,hs,rfl,ty⟩
      obtain⟨x,hx,rfl⟩:=yu hy;have hi:i<ds.length:=by have:=(Zc.mp hx).1;have:=hh.len;omega
      have e2:ds[i]? = some ds[i]:=by simp[hi]
      have hm:=Zl hi;have r8:(ds[i]).worths.length<=8:=by rw[g.rows _ hm];exact(g.words1 _ hm).2
      simp only[zg,zh,↓reduceIte];refine⟨x,ds[i],rfl,(hh2.hand i x ds[i] hx e2).mono S,r8,fun H4 p wd g' gs S4 tp => ?_⟩;refine⟨S.trans S4,hs++[p],by simp,?_⟩;rw[Zq,e2];exact(ty.mono S4).snoc tp
    . rintro ys H3 ⟨S,hs,rfl,ty⟩ l1 hl1
      rw[Za,hh.len,Zt]at ty;have S4:Same H3 (upd H3 l1 (.lst (hs.map V.ref))):=Same.upd (Same.refl _) hl1;refine⟨_,.of zn,fun l2 hl2=>⟨by decide,fun p hp => ?_⟩⟩;generalize upd H3 l1 (.lst (hs.map V.ref))=H4 at *;obtain⟨S5,h5⟩:=lay hl2 (.tup (hs.map V.ref));generalize upd H4 l2 (.tup (hs.map V.ref))=H5 at *;have S6:Same H5 (upd H5 p (.tup [V.ref l,V.ref l2])):=Same.upd (Same.refl _) hp;have S36:=S4.trans (S5.trans S6);exact q _ p l l2 hs (S1.trans (S2.trans (S.trans S36))) ⟨zn,(S.trans S36) _ _ h2,S6 _ _ h5,ty.mono S36⟩
end
section
variable{α:Type}
def Picks(r:List α)(wss:List (List α)):Prop:=r.length=wss.length/\∀(j:Nat) (ws:List α),wss[j]? = some ws->∃w,r[j]? = some w/\w∈ws
theorem zkk{rs:List (List α)}{ws:List α}{r:List α}{w:α}(h1:r∈rs)(h2:w∈ws):r++[w]∈x5 rs ws:=by
  simp only[x5,x9,Xa,Zp];exact⟨_,⟨r,h1,rfl⟩,Zp.mpr ⟨w,h2,rfl⟩⟩
theorem zbd(wss:List (List α)):∀n,n<=wss.length->∀r,r∈yl (wss.take n)↔Picks r (wss.take n):=by
  intro n
  induction n with
  | zero =>
    intro _ r;simp only[YI,yl,List.foldl_nil,ZC]
    constructor
    . rintro rfl;exact⟨rfl,fun j ws e=>by simp at e⟩
    . intro h;exact ZZ.mp h.1
  | succ n ih =>
    intro hn r;have e:wss[n]? = some wss[n]:=Zb (by omega);have et:wss.take (n+1)=wss.take n++[wss[n]]:=by rw[Zq,e];rfl
    have ln:(wss.take n).length=n:=by rw[Zj];omega
    rw[uv e]
    constructor
    . intro h
      obtain⟨q,w,h1,h2,rfl⟩:=ix h;obtain⟨p1,p2⟩:=(ih (by omega) q).mp h1;rw[ln]at p1;refine⟨by rw[et,Zo,Zo,p1,ln];rfl,fun j ws ej => ?_⟩;rw[et]at ej
      by_cases hj:j<n
      . rw[Zg (by omega)]at ej
        obtain⟨w',a1,a2⟩:=p2 j ws ej;exact⟨w',by rw[Zg (by omega)];exact a1,a2⟩
      . rw[Zf (by omega),ln]at ej
        have hj0:j-n=0:=by
          have:=(Zc.mp ej).1;simp at this;omega
        rw[hj0]at ej;simp at ej;subst ej;exact⟨w,by rw[Zf (by omega),p1,hj0];rfl,h2⟩
    . rintro⟨p1,p2⟩
      rw[et]at p1 p2;have lr:r.length=n+1:=by rw[p1,Zo,ln];rfl
      obtain⟨w,a1,a2⟩:=p2 n wss[n] (by rw[Zf (by omega),ln];simp)
      have er:r=r.take n++[w]:=by
        have:r.take (n+1)=r:=ZG (by omega);rw[Zq,a1]at this;exact this.symm
      rw[er];refine zkk ((ih (by omega) _).mpr ⟨by rw[Zj,ln];omega,fun j ws ej => ?_⟩) a2;have hj:j<n:=by have:=(Zc.mp ej).1;omega
      obtain⟨w',b1,b2⟩:=p2 j ws (by rw[Zg (by omega)];exact ej);exact⟨w',by rw[List.getElem?_take,if_pos hj];exact b1,b2⟩
theorem rowsP_iff{wss:List (List α)}{r:List α}:r∈yl wss↔Picks r wss:=by
  have:=zbd wss wss.length (Zm _) r
  rwa [Zt]at this
theorem zd9{rs:List (List α)}{ws:List α}(h1:rs.Nodup)(h2:ws.Nodup):(x5 rs ws).Nodup:=by
  induction rs with
  | nil=>exact List.nodup_nil
  | cons r rs ih =>
    rw[cy];obtain⟨n1,n2⟩:=Yc.mp h1;refine List.nodup_append.mpr ⟨?_,ih n2,fun x hx y hy e => ?_⟩
    . rw[x9]
      refine YV.mpr (List.Pairwise.imp (fun {a b} hab e=>hab ?_) h2)
      simpa using e
    . obtain⟨w,_,rfl⟩:=Zp.mp hx
      obtain⟨q,w',hq,_,e2⟩:=ix hy;rw[e2]at e;have:=(List.append_inj' e rfl).1;exact n1 (this▸hq)
theorem f8{wss:List (List α)}(h:∀ws∈wss,ws.Nodup):(yl wss).Nodup:=by
  have:∀n,n<=wss.length->(yl (wss.take n)).Nodup:=by
    intro n
    induction n with
    | zero=>intro _;simp[yl]
    | succ n ih =>
      intro hn;have e:wss[n]? = some wss[n]:=Zb (by omega);rw[uv e];exact zd9 (ih (by omega)) (h _ (Zl _))
  have:=this wss.length (Zm _)
  rwa [Zt]at this
end
def xj(d:HD)(z:Str):List Int:=d.worths.getD (d.words.idxOf z) []
def rz(d:HD)(wt:Int)(z:Str):List Int:=(xj d z).map fun n=>wt*n
def m3(ds:List HD)(ws:List Int)(r:List Str)(i:Nat):List Int:=match ds[i]?,ws[i]?,r[i]? with
  | some d,some w,some z=>rz d w z
  | _,_,_=>[]
def yw(ds:List HD)(ws:List Int)(r:List Str)(n:Nat):List (List Int):=(List.range n).map (m3 ds ws r)
def yt(hc:List Int)(ps:List (List Int)):List Int:=ps.foldl (fun t p=>List.zipWith (· + ·) t p) hc
theorem ck(ds:List HD)(ws:List Int)(r:List Str)(n:Nat):(yw ds ws r n).length=n:=by rw[yw,Za,ZY]
theorem ee(ds:List HD)(ws:List Int)(r:List Str)(n:Nat):yw ds ws r (n+1)=yw ds ws r n++[m3 ds ws r n]:=by rw[yw,List.range_succ,Zn];rfl
theorem ft(hc:List Int)(ps:List (List Int))(p:List Int):yt hc (ps++[p])=List.zipWith (· + ·) (yt hc ps) p:=by rw[yt,List.foldl_append];rfl
theorem qq{n:Nat}:∀(ps:List (List Int)) (hc:List Int),hc.length=n->(∀p∈ps,p.length=n)->(yt hc ps).length=n
  | [],hc,h,_=>h
  | p::ps,hc,h,hp=>by
    refine qq ps _ ?_ fun q hq=>hp q (Zv _ hq)
    rw[Yv,h,hp p ZA,YZ]
theorem zck:∀{zs:List Str} {m:Nat} {z:Str},zs[m]? = some z->zs.idxOf z<=m
  | [],m,z,h=>by simp at h
  | y::zs,0,z,h=>by
    simp at h;subst h;simp
  | y::zs,m+1,z,h=>by
    rw[List.idxOf_cons]
    cases y==z with
    | true=>exact ZE _
    | false=>exact YB (zck (by simpa using h))
theorem zez(y z:Str):eqV (V.str y) (V.str z)=decide (y=z):=rfl
theorem za7{zs:List Str}{z:Str}(h:z∈zs):FirstAt (zs.map V.str) (V.str z) (zs.idxOf z):=by
  have hl:=Zz.mpr h;refine⟨rfl,?_,⟨V.str z,?_,?_⟩,fun m y hm e => ?_⟩
  . rw[ZS]
    intro x hx;obtain⟨y,_,rfl⟩:=Zp.mp hx;rfl
  . rw[Ze,Zb hl,YS]
    rfl
  . rw[zez]
    exact decide_eq_true rfl
  . rw[Ze]at e
    have hml:m<zs.length:=by omega
    rw[Zb hml]at e;cases e;rw[zez,decide_eq_false];intro ez;have:=Zz.mpr h
    have hle:zs.idxOf z<=m:=by
      exact zck (by rw[Zb hml,ez])
    omega
def jy(ds:List HD)(r:List Str):Prop:=r.length=ds.length/\∀(i:Nat) (d:HD) (z:Str),ds[i]? = some d->r[i]? = some z->z∈d.words
def bo(K:Fg):Sp:=fun vs H Q _=>∃(t:Addr) (d:HD) (w g:Addr) (gs:List Addr) (z:Str),vs=[.ref t,.str z]/\HHand H t d w g gs/\z∈d.words/\d.worths.length=d.words.length/\∀r,H r=some (.tup ((xj d z).map V.int))->Q (.ref r) H
def zi8(K:Fg):Sp:=fun vs H Q _=>∃(t:Addr) (d:HD) (w g:Addr) (gs:List Addr) (wt:Int) (z:Str),vs=[.ref t,.int wt,.str z]/\HHand H t d w g gs/\z∈d.words/\d.worths.length=d.words.length/\(∀r∈d.worths,r.length<=8)/\wj wt/\(∀r∈d.worths,∀i∈r,wj i)/\∀H' l,Same H H'->H' l=some (.lst ((rz d wt z).map V.int))->Q (.ref l) H'
def PvPart(H:Hp)(wt:Int)(ns:List Int)(i:Nat)(ys:List V)(H':Hp):Prop:=H'=H/\ys=((ns.take i).map fun n=>wt*n).map V.int
structure IntsAt(H:Hp)(ls:List Addr)(ps:List (List Int)):Prop where
  len:ls.length=ps.length
  at':∀(i:Nat) (l:Addr) (p:List Int),ls[i]? = some l->ps[i]? = some p->H l=some (.lst (p.map V.int))
theorem IntsAt.mono{H H':Hp}{ls:List Addr}{ps:List (List Int)}(S:Same H H')(h:IntsAt H ls ps):IntsAt H' ls ps:=⟨h.len,fun i l p e1 e2=>S _ _ (h.at' i l p e1 e2)⟩
theorem IntsAt.snoc{H:Hp}{ls:List Addr}{ps:List (List Int)}{l:Addr}{p:List Int}(h:IntsAt H ls ps)(hl:H l=some (.lst (p.map V.int))):IntsAt H (ls++[l]) (ps++[p]):=by
  refine⟨by simp[h.len],fun i a q e1 e2 => ?_⟩
  by_cases hi:i<ls.length
  . rw[Zg hi]at e1
    rw[Zg (by rw[<-h.len];exact hi)]at e2;exact h.at' i a q e1 e2
  . rw[Zf (ZD.mp hi)]at e1
    rw[Zf (by rw[<-h.len];exact ZD.mp hi)]at e2
    have h0:i-ls.length=0:=by
      have:=(Zc.mp e1).1;simp at this;omega
    rw[h0]at e1;rw[<-h.len,h0]at e2;simp at e1 e2;subst e1 e2;exact hl
def zar(K:Fg):Sp:=fun vs H Q _=>∃(p o h l r:Addr) (hs:List Addr) (outs:List Str) (ds:List HD) (ws:List Int) (row:List Str),vs=[.ref p,.ref l,.ref r]/\HHouse H p o h hs outs ds/\GoodHouse outs ds/\H l=some (.lst (ws.map V.int))/\ws.length=ds.length/\(∀i∈ws,wj i/\1<=i)/\SqT K H r (row.map V.str)/\jy ds row /\
  ∀H' l' ls,Same H H'->H' l'=some (.lst (ls.map V.ref))->IntsAt H' ls (yw ds ws row ds.length)->Q (.ref l') H'
def zlc(H:Hp)(ds:List HD)(ws:List Int)(row:List Str)(i:Nat)(ys:List V)(H':Hp):Prop:=Same H H'/\∃ls:List Addr,ys=ls.map V.ref/\IntsAt H' ls (yw ds ws row i)
def za6(K:Fg):Sp:=fun vs H Q _=>∃(p o h l m:Addr) (hs:List Addr) (outs:List Str) (ds:List HD) (ws hc:List Int),vs=[.ref p,.ref l,.ref m]/\HHouse H p o h hs outs ds/\GoodHouse outs ds/\H l=some (.lst (ws.map V.int))/\ws.length=ds.length/\(∀i∈ws,wj i/\1<=i)/\H m=some (.lst (hc.map V.int))/\hc.length=outs.length/\(∀i∈hc,wj i)/\∀H',Same H H'->Q .non H'
def zhq(K:Fg):Sp:=fun vs H Q _=>∃(p o h l:Addr) (hs:List Addr) (outs:List Str) (ds:List HD) (ws:List Int),vs=[.ref p,.ref l]/\HHouse H p o h hs outs ds/\GoodHouse outs ds/\H l=some (.lst (ws.map V.int))/\ws.length=ds.length/\(∀i∈ws,wj i/\1<=i)/\∀H',Same H H'->Q (.bl true) H'
def zix(K:Fg):Sp:=fun vs H Q _=>∃(p o h m:Addr) (hs:List Addr) (outs:List Str) (ds:List HD) (hc:List Int),vs=[.ref p,.ref m]/\HHouse H p o h hs outs ds/\GoodHouse outs ds/\H m=some (.lst (hc.map V.int))/\hc.length=outs.length/\(∀i∈hc,wj i)/\∀H',Same H H'->Q (.bl true) H'
def zci(K:Fg):Sp:=fun vs H Q _=>∃(p o h l m r:Addr) (hs:List Addr) (outs:List Str) (ds:List HD) (ws hc:List Int) (row:List Str),vs=[.ref p,.ref l,.ref m,.ref r]/\HHouse H p o h hs outs ds/\GoodHouse outs ds/\H l=some (.lst (ws.map V.int))/\ws.length=ds.length/\(∀i∈ws,wj i/\1<=i)/\H m=some (.lst (hc.map V.int))/\hc.length=outs.length/\(∀i∈hc,wj i)/\SqT K H r (row.map V.str)/\jy ds row /\
  ∀H' l',Same H H'->H l'=none->H' l'=some (.lst ((yt hc (yw ds ws row ds.length)).map V.int))->Q (.ref l') H'
def PvSc(p l m r lp:Addr)(H0 H:Hp)(ls:List Addr)(ps:List (List Int))(hc:List Int)(i:Nat)(σ:L2.St)(H':Hp):Prop:=Same H H'/\∃(t:Addr) (v:Option V),H0 t=none/\H' t=some (.lst ((yt hc (ps.take i)).map V.int))/\σ=[some (.ref p),some (.ref l),some (.ref m),some (.ref r),some (.ref t),v]
def PvZw(H:Hp)(as bs:List Int)(i:Nat)(ys:List V)(H':Hp):Prop:=Same H H'/\ys=(List.zipWith (· + ·) (as.take i) (bs.take i)).map V.int
theorem zkm{as bs:List Int}{i:Nat}{x y:Int}(h1:as[i]? = some x)(h2:bs[i]? = some y):List.zipWith (· + ·) (as.take (i+1)) (bs.take (i+1))=List.zipWith (· + ·) (as.take i) (bs.take i)++[x+y]:=by
  have hl1:=(Zc.mp h1).1;have hl2:=(Zc.mp h2).1;rw[Zq,Zq,h1,h2];exact List.zipWith_append (by rw[Zj,Zj];omega)
theorem re{outs:List Str}{ds:List HD}(G:GoodHouse outs ds){ws:List Int}{row:List Str}(lw:ws.length=ds.length)(R:jy ds row){i:Nat}(hi:i<ds.length):(m3 ds ws row i).length=outs.length:=by
  have e1:ds[i]? = some ds[i]:=Zb hi;have e2:ws[i]? = some (ws[i]'(by omega)):=Zb (by omega);have e3:row[i]? = some (row[i]'(by rw[R.1];exact hi)):=Zb (by rw[R.1];exact hi);have hz:=R.2 i _ _ e1 e3;have hm:=Zl hi;unfold m3;rw[e1,e2,e3]
  show(rz _ _ _).length=_
  rw[rz,Za];have hx:=Zz.mpr hz;have hr:(ds[i]).words.idxOf (row[i]'(by rw[R.1];exact hi))<(ds[i]).worths.length:=by rw[G.rows _ hm];exact hx
  rw[xj,Zk,Zb hr];exact G.cols _ hm _ (Zl hr)
section
variable{P:Program}{w:World}{K:Fg}{mg:Str->Option Value}{base:Heap}{a:Ad}
theorem zbl (D:zc K mg "outcomes_of" sf ["house"]):FnAt P w K mg base "outcomes_of" 1 ["house"] (uq K 0):=by
  refine FnAt.of D ap (fun vs H Q E h => ?_) (fun f cdv A outer s H vs Q E hr h => ?_)
  . obtain⟨t,us,v,rfl,_⟩:=h
    rfl
  . obtain⟨t,us,v,rfl,ht,e,q⟩:=h
    refine⟨_,(@zd _ _ _ (@zp _ _ _ _ (@z0 _ _ _ _ _ _ _ yq (pv 0) (@zi _ _ _ _) (fun _ _=>rfl)))),?_⟩;rw[show start ["house"] [V.ref t]=[some (V.ref t)] from rfl];simp only[zg,zh,↓reduceIte];exact⟨_,ht,_,zy (j:=0) e,q⟩
theorem dh (D:zc K mg "worths_of_hand" wv ["hand"]):FnAt P w K mg base "worths_of_hand" 1 ["hand"] (uq K 2):=by
  refine FnAt.of D o7 (fun vs H Q E h => ?_) (fun f cdv A outer s H vs Q E hr h => ?_)
  . obtain⟨t,us,v,rfl,_⟩:=h
    rfl
  . obtain⟨t,us,v,rfl,ht,e,q⟩:=h
    refine⟨_,(@zd _ _ _ (@zp _ _ _ _ (@z0 _ _ _ _ _ _ _ yq (pv 0) (@zi _ _ _ _) (fun _ _=>rfl)))),?_⟩;rw[show start ["hand"] [V.ref t]=[some (V.ref t)] from rfl];simp only[zg,zh,↓reduceIte];exact⟨_,ht,_,zy (j:=2) e,q⟩
theorem kx (y9:FnAt P w K mg base "words_of_hand" 1 ["hand"] (uq K 1)) (wu:FnAt P w K mg base "worths_of_hand" 1 ["hand"] (uq K 2)) (D:zc K mg "worths_by" px ["hand", "word"]):FnAt P w K mg base "worths_by" 2 ["hand", "word"] (bo K):=by
  refine FnAt.of D zdn (fun vs H Q E h => ?_) (fun f cdv A outer s H vs Q E hr h => ?_)
  . obtain⟨t,d,wd,g,gs,z,rfl,_⟩:=h
    rfl
  . obtain⟨t,d,wd,g,gs,z,rfl,hK,hz,hl,q⟩:=h
    refine⟨_,(@zd _ _ _ (@zp _ _ _ _ (@z0 _ _ _ _ _ _ _ yq (zj wu (hr.mono (by decide)) rfl (za (pv 0) (@zb _))) (zhb PySem.F.plainAttrs_tuple PySem.F.slot_tuple_index PySem.F.type_tuple_index zit (zj y9 (hr.mono (by decide)) rfl (za (pv 0) (@zb _))) (za (pv 1) (@zb _))) (fun _ _=>rfl)))),?_⟩;rw[show start ["hand", "word"] [V.ref t,V.str z]=[some (V.ref t),some (V.str z)] from rfl];simp only[zg,zh,↓reduceIte];have hx:=Zz.mpr hz;have hr:d.words.idxOf z<d.worths.length:=by rw[hl];exact hx
    obtain⟨r,er⟩:∃r,gs[d.words.idxOf z]? = some r:=⟨gs[d.words.idxOf z]'(by rw[hK.len];exact hr),by simp⟩;have hrow:=hK.row _ r _ er (Zb hr);refine⟨t,_,_,rfl,.of hK.tup,rfl,t,_,_,rfl,.of hK.tup,rfl,?_⟩;refine⟨⟨wd,rfl,_,.of hK.words⟩,wd,rfl,_,.of hK.words,_,za7 hz,g,rfl,_,.of hK.grid,_,zy (v:=V.ref r) (by rw[Ze,er];rfl),q r ?_⟩;rw[xj,Zk,Zb hr];exact hrow
theorem zce{d:HD}{z:Str}(h:∀r∈d.worths,r.length<=8):(xj d z).length<=8:=by
  rw[xj,Zk]
  cases e:d.worths[d.words.idxOf z]? with
  | none=>exact ZE _
  | some r=>exact h r (Zi e)
theorem i0 (kx:FnAt P w K mg base "worths_by" 2 ["hand", "word"] (bo K)) (D:zc K mg "part_of" ki ["hand", "weight", "word"]):FnAt P w K mg base "part_of" 3 ["hand", "weight", "word"] (zi8 K):=by
  refine FnAt.of D zgi (fun vs H Q E h => ?_) (fun f cdv A outer s H vs Q E hr h => ?_)
  . obtain⟨t,d,wd,g,gs,wt,z,rfl,_⟩:=h
    rfl
  . obtain⟨t,d,wd,g,gs,wt,z,rfl,hK,hz,hl,h8,hwt,hwn,q⟩:=h
    have hlen:=zce (z:=z) h8;refine⟨_,(@zd _ _ _ (@zp _ _ _ _ (yj ["worth"] ["hand", "weight", "word"] rfl (@zcl _ _ _ _ (zj kx (hr.mono (by decide)) rfl (za (pv 0) (za (pv 2) (@zb _))))) (fun _=>(zw (i:=0) (show(["worth", "hand", "weight", "word"]:List Str).Nodup by decide +kernel) rfl (Or.inl rfl))) (fun _=>(@yi _)) (fun _=>(@zt _ _ _ _ _ _ _ _ zff (pv 2) (pv 0))) rfl (by decide +kernel) rfl rfl))),?_⟩;rw[show start ["hand", "weight", "word"] [V.ref t,V.int wt,V.str z]=[some (V.ref t),some (V.int wt),some (V.str z)] from rfl];simp only[zg,zh,↓reduceIte];refine⟨t,d,wd,g,gs,z,rfl,hK,hz,hl,fun r hrr=>⟨r,rfl,⟨_,.of hrr⟩,fun dd => ?_⟩⟩;refine zcr (xs:=(xj d z).map V.int) (PvPart H wt (xj d z)) ⟨rfl,rfl⟩ ?_ ?_ ?_
    . rintro i ys H2 hi ⟨rfl,rfl⟩
      refine⟨?_,.of hrr⟩;rw[Za,Za,Zj];exact Zd (ZB _ _) (Zd hlen (by decide))
    . rintro i y ys H2 hy ⟨rfl,rfl⟩
      obtain⟨x,hx,rfl⟩:=yu hy;simp only[zg,zh,↓reduceIte]
      have hgx:wj x:=by
        have hm:=Zi hx;rw[xj,Zk]at hm
        cases e:d.worths[d.words.idxOf z]? with
        | none=>rw[e]at hm;cases hm
        | some r=>rw[e]at hm;exact hwn r (Zi e) x hm
      refine⟨⟨⟨by have:=hwt.1;omega,by have:=hwt.2;omega⟩,by have:=hgx.1;omega,by have:=hgx.2;omega⟩,rfl,?_⟩;rw[Zq,hx,Zn,Zn];rfl
    . rintro ys H2 ⟨rfl,rfl⟩ l hll
      rw[Za,Zt];exact q _ l (Same.upd (Same.refl _) hll) zn
theorem jv (B:Bt mg) (f_hands_of:FnAt P w K mg base "hands_of" 1 ["house"] (uq K 1)) (i0:FnAt P w K mg base "part_of" 3 ["hand", "weight", "word"] (zi8 K)) (D:zc K mg "parts_of" ny ["house", "weights", "row"]):FnAt P w K mg base "parts_of" 4 ["house", "weights", "row"] (zar K):=by
  refine FnAt.of D zdy (fun vs H Q E h => ?_) (fun f cdv A outer s H vs Q E hr h => ?_)
  . obtain⟨p,o,h,l,r,hs,outs,ds,ws,row,rfl,_⟩:=h
    rfl
  . obtain⟨p,o,h,l,r,hs,outs,ds,ws,row,rfl,hH,G,hw,lw,gw,hrow,R,q⟩:=h
    refine⟨_,(@zd _ _ _ (@zp _ _ _ _ (yj ["hand", "weight", "word"] ["house", "weights", "row"] rfl (zlo rfl B.zip (za (zj f_hands_of (hr.mono (by decide)) rfl (za (pv 0) (@zb _))) (za (pv 1) (za (pv 2) (@zb _))))) (fun _=>(zcs rfl (si (zw (i:=0) (show(["hand", "weight", "word", "house", "weights", "row"]:List Str).Nodup by decide +kernel) rfl (Or.inl rfl)) (si (zw (i:=1) (show(["hand", "weight", "word", "house", "weights", "row"]:List Str).Nodup by decide +kernel) rfl (Or.inl rfl)) (si (zw (i:=2) (show(["hand", "weight", "word", "house", "weights", "row"]:List Str).Nodup by decide +kernel) rfl (Or.inl rfl)) (@au _)))))) (fun _=>(@yi _)) (fun _=>(zj i0 (hr.mono (by decide)) rfl (za (pv 0) (za (pv 1) (za (pv 2) (@zb _)))))) rfl (by decide +kernel) rfl rfl))),?_⟩;rw[show start ["house", "weights", "row"] [V.ref p,V.ref l,V.ref r]=[some (V.ref p),some (V.ref l),some (V.ref r)] from rfl];simp only[zg,zh,↓reduceIte];have h4:=G.hands.2;refine⟨p,_,_,rfl,.of hH.tup,rfl,h,rfl,?_⟩
    have all:∀H',Same H H'->qk K H' [h,l,r] [hs.map V.ref,ws.map V.int,row.map V.str]:=fun H' S=>⟨rfl,fun j a xs e1 e2=>by
      match j with
      | 0=>simp at e1 e2;subst e1 e2;exact .inr (.of (S _ _ hH.hands))
      | 1=>simp at e1 e2;subst e1 e2;exact .inl (.of (S _ _ hw))
      | 2=>simp at e1 e2;subst e1 e2;exact .inr (S.seqT hrow)
      | j+3=>simp at e1⟩
    refine⟨⟨_,all H (Same.refl _)⟩,fun dd => ?_⟩;refine zi2 (xss:=[hs.map V.ref,ws.map V.int,row.map V.str]) (n:=ds.length) (zlc H ds ws row) ⟨Same.refl _,[],rfl,rfl,fun i l p e=>by simp at e⟩ (fun xs hx => ?_) ⟨hs.map V.ref,by simp,by rw[Za];exact hH.hand.1⟩ ?_ ?_ ?_
    . simp only[ZK,Zx,or_false]at hx
      rcases hx with rfl | rfl | rfl
      . rw[Za,hH.hand.1];exact Zm _
      . rw[Za,lw];exact Zm _
      . rw[Za,R.1];exact Zm _
    . rintro i ys H2 hi ⟨S,ls,rfl,hI⟩
      refine⟨?_,all H2 S⟩;rw[Za,hI.len,ck];exact Zd hi (Zd h4 (by decide))
    . rintro i vs ys H2 T hi lv hv hT ⟨S,ls,rfl,hI⟩
      have e0:=hv 0 _ rfl;have e1:=hv 1 _ rfl;have e2:=hv 2 _ rfl;have hd:ds[i]? = some ds[i]:=Zb hi;obtain⟨t,ht⟩:∃t,hs[i]? = some t:=⟨hs[i]'(by rw[hH.hand.1];exact hi),by simp⟩;obtain⟨wt,hwt⟩:∃t,ws[i]? = some t:=⟨ws[i]'(by rw[lw];exact hi),by simp⟩;obtain⟨z,hz⟩:∃t,row[i]? = some t:=⟨row[i]'(by rw[R.1];exact hi),by simp⟩;rw[Ze,ht]at e0;rw[Ze,hwt]at e1;rw[Ze,hz]at e2
      have ev:vs=[V.ref t,V.int wt,V.str z]:=by
        match vs,lv with
        | [x,y,u],_ =>
          simp at e0 e1 e2;rw[<-e0,<-e1,<-e2]
      subst ev;have S1:Same H2 (upd H2 T (.tup [V.ref t,V.int wt,V.str z])):=Same.upd (Same.refl _) hT;simp only[zg,zh,↓reduceIte];refine⟨_,.of zn,rfl,?_⟩;generalize upd H2 T (.tup [V.ref t,V.int wt,V.str z])=H3 at *;simp only[zg,zh,↓reduceIte];obtain⟨wd,g,gs,hk⟩:=(hH.hand.mono (S.trans S1)).2 i t _ ht hd;have hm:=Zl hi;have hG:=G.hand hm;have ho8:=G.outs1.2;refine⟨t,ds[i],wd,g,gs,wt,z,rfl,hk,R.2 i _ z hd hz,hG.rows,fun r' hr'=>by rw[(hG.cols r' hr').1];exact ho8,(gw wt (Zi hwt)).1,fun r' hr'=>(hG.cols r' hr').2,fun H4 l4 S4 hl4 => ?_⟩;refine⟨S.trans (S1.trans S4),ls++[l4],by simp,?_⟩;rw[ee];refine(hI.mono (S1.trans S4)).snoc ?_;rw[hl4,m3,hd,hwt,hz]
    . rintro ys H2 ⟨S,ls,rfl,hI⟩ l2 hl2
      exact q _ l2 ls (S.trans (Same.upd (Same.refl _) hl2)) zn (hI.mono (Same.upd (Same.refl _) hl2))
theorem qe (B:Bt mg) (f_outcomes_of:FnAt P w K mg base "outcomes_of" 1 ["house"] (uq K 0)) (wm:FnAt P w K mg base "is_grid_row" 3 ["thing", "width"] qRow) (D:zc K mg "are_handicaps" v7 ["house", "thing"]):FnAt P w K mg base "are_handicaps" 4 ["house", "thing"] (zix K):=by
  refine FnAt.of D db (fun vs H Q E h => ?_) (fun f cdv A outer s H vs Q E hr h => ?_)
  . obtain⟨p,o,h,m,hs,outs,ds,hc,rfl,_⟩:=h
    rfl
  . obtain⟨p,o,h,m,hs,outs,ds,hc,rfl,hH,G,hm,lh,gh,q⟩:=h
    refine⟨_,(@zd _ _ _ (@zp _ _ _ _ (zj wm (hr.mono (by decide)) rfl (za (pv 1) (za (zx yf rfl B.len xi (za (zj f_outcomes_of (hr.mono (by decide)) rfl (za (pv 0) (@zb _))) (@zb _))) (@zb _)))))),?_⟩;rw[show start ["house", "thing"] [V.ref p,V.ref m]=[some (V.ref p),some (V.ref m)] from rfl];simp only[zg,zh,↓reduceIte];refine⟨p,_,_,rfl,.of hH.tup,rfl,o,rfl,_,.inr (.of hH.outs),?_⟩;rw[Za];exact⟨m,hc,outs.length,rfl,hm,lh,G.outs1.2,gh,q⟩
theorem o0 (B:Bt mg) (f_hands_of:FnAt P w K mg base "hands_of" 1 ["house"] (uq K 1)) (wm:FnAt P w K mg base "is_grid_row" 3 ["thing", "width"] qRow) (D:zc K mg "are_weights" tq ["house", "thing"]):FnAt P w K mg base "are_weights" 4 ["house", "thing"] (zhq K):=by
  refine FnAt.of D az (fun vs H Q E h => ?_) (fun f cdv A outer s H vs Q E hr h => ?_)
  . obtain⟨p,o,h,l,hs,outs,ds,ws,rfl,_⟩:=h
    rfl
  . obtain⟨p,o,h,l,hs,outs,ds,ws,rfl,hH,G,hl,lw,gw,q⟩:=h
    refine⟨_,(@zd _ _ _ (@zp _ _ _ _ (@uy _ _ _ _ _ _ _ (zj wm (hr.mono (by decide)) rfl (za (pv 1) (za (zx yf rfl B.len xi (za (zj f_hands_of (hr.mono (by decide)) rfl (za (pv 0) (@zb _))) (@zb _))) (@zb _)))) (@u9 _ _ _ _ _ (zx (ub rfl) rfl B.all ll (za (yj ["weight"] ["house", "thing"] rfl (@ye _ _ _ _ (pv 1)) (fun _=>(zw (i:=0) (show(["weight", "house", "thing"]:List Str).Nodup by decide +kernel) rfl (Or.inl rfl))) (fun _=>(@yi _)) (fun _=>(@um _ _ _ _ _ _ _ _ op_ge (pv 0) (@zi _ _ _ _) (yd _))) rfl (by decide +kernel) rfl rfl) (@zb _))))))),?_⟩;rw[show start ["house", "thing"] [V.ref p,V.ref l]=[some (V.ref p),some (V.ref l)] from rfl];simp only[zg,zh,↓reduceIte];have h4:=G.hands.2;refine⟨p,_,_,rfl,.of hH.tup,rfl,h,rfl,_,.inr (.of hH.hands),?_⟩;rw[Za,hH.hand.1];refine⟨l,ws,ds.length,rfl,hl,lw,by omega,fun i hi=>(gw i hi).1,fun H1 S1 => ?_⟩;have hl1:=S1 _ _ hl;refine⟨_,rfl,iteT ⟨⟨_,.of hl1⟩,fun d => ?_⟩⟩;refine ym (xs:=ws.map V.int) (PvAT H1) ⟨Same.refl _,rfl⟩ ?_ ?_ ?_
    . rintro i ys H2 hi ⟨S,rfl⟩
      rw[Za]at hi;exact⟨by rw[sg];exact Zd hi (Zd (show ws.length<=8 by omega) (by decide)),S.seq (.of hl1)⟩
    . rintro i x ys H2 hx ⟨S,rfl⟩
      obtain⟨y,hy,rfl⟩:=yu hx;simp only[zg,zh,↓reduceIte];have:=(gw y (Zi hy)).2;rw[decide_eq_true (show y ≥ 1 from this)];exact⟨S,ud i⟩
    . rintro ys H2 ⟨S,rfl⟩ l2 hl2
      refine⟨_,.of zn,?_⟩;rw[sh];exact q _ (S1.trans (S.trans (Same.upd (Same.refl _) hl2)))
theorem sk (B:Bt mg) (C:Ct K mg a) (o0:FnAt P w K mg base "are_weights" 4 ["house", "thing"] (zhq K)) (qe:FnAt P w K mg base "are_handicaps" 4 ["house", "thing"] (zix K)) (D:zc K mg "refuse_weights" vo ["house", "weights", "handicaps"]):FnAtX P w K mg base "refuse_weights" 5 ["house", "weights", "handicaps"] (za6 K):=by
  refine FnAtX.of D fq (fun vs H Q E h => ?_) (fun f cdv A outer s H vs Q E hr h => ?_)
  . obtain⟨p,o,h,l,m,hs,outs,ds,ws,hc,rfl,_⟩:=h
    rfl
  . obtain⟨p,o,h,l,m,hs,outs,ds,ws,hc,rfl,hH,G,hl,lw,gw,hm,lh,gh,q⟩:=h
    refine⟨_,(@ze _ _ _ _ _ (@yh _ _ _ _ _ _ _ _ (@yv _ _ _ _ (yx (zj o0 (hr.mono (by decide)) rfl (za (pv 0) (za (pv 1) (@zb _)))))) (@zd _ _ _ (wa rfl C.q_NoWeight.toErr rfl C.m_NoWeight (y0 rfl) (za (@zm _ _ _ _) (@zb _)))) (@z7 _)) (@zd _ _ _ (@yh _ _ _ _ _ _ _ _ (@yv _ _ _ _ (yx (zj qe (hr.mono (by decide)) rfl (za (pv 0) (za (pv 2) (@zb _)))))) (@zd _ _ _ (wa rfl C.q_NoWeight.toErr rfl C.m_NoWeight (y0 rfl) (za (@zm _ _ _ _) (@zb _)))) (@z7 _)))),?_⟩;rw[show start ["house", "weights", "handicaps"] [V.ref p,V.ref l,V.ref m]=[some (V.ref p),some (V.ref l),some (V.ref m)] from rfl];simp only[zg,zh,↓reduceIte];refine⟨p,o,h,l,hs,outs,ds,ws,rfl,hH,G,hl,lw,gw,fun H1 S1 => ?_⟩;refine⟨true,rfl,iteF ⟨p,o,h,m,hs,outs,ds,hc,rfl,hH.mono S1,G,S1 _ _ hm,lh,gh,fun H2 S2 => ?_⟩⟩;exact⟨true,rfl,iteF (q H2 (S1.trans S2))⟩
theorem di (B:Bt mg) (C:Ct K mg a) (sk:FnAtX P w K mg base "refuse_weights" 5 ["house", "weights", "handicaps"] (za6 K)) (jv:FnAt P w K mg base "parts_of" 4 ["house", "weights", "row"] (zar K)) (D:zc K mg "scores" ic ["house", "weights", "handicaps", "row"]):FnAtX P w K mg base "scores" 6 ["house", "weights", "handicaps", "row"] (zci K):=by
  refine FnAtX.of D sc_scores (fun vs H Q E h => ?_) (fun f cdv A outer s H vs Q E hr h => ?_)
  . obtain⟨p,o,h,l,m,r,hs,outs,ds,ws,hc,row,rfl,_⟩:=h
    rfl
  . obtain⟨p,o,h,l,m,r,hs,outs,ds,ws,hc,row,rfl,hH,G,hl,lw,gw,hm,lh,gh,hrow,R,q⟩:=h
    refine⟨_,(@ze _ _ _ _ _ (vx (vc sk (hr.mono (by decide)) (xx rfl) rfl (za (pv 0) (za (pv 1) (za (pv 2) (@zb _)))))) (@ze _ _ _ _ _ (PS.nox (zz (i:=4) sc_scores.nd rfl (Or.inl rfl) (y4 io rfl B.list ml (za (pv 2) (@zb _))))) (@ze _ _ _ _ _ (PS.nox (xp PassesOwn.never rfl (@ye _ _ _ _ (zj jv (hr.mono (by decide)) rfl (za (pv 0) (za (pv 1) (za (pv 3) (@zb _)))))) (zw (i:=5) sc_scores.nd rfl (Or.inl rfl)) (@zd _ _ _ (aj (i:=4) ["total", "number"] ["house", "weights", "handicaps", "row", "totals", "part"] sc_scores.nd rfl rfl rfl (pi_zip rfl B.zip (za (pv 4) (za (pv 5) (@zb _)))) (fun _=>(zcs rfl (si (zw (i:=0) (show(["total", "number", "house", "weights", "handicaps", "row", "totals", "part"]:List Str).Nodup by decide +kernel) rfl (Or.inl rfl)) (si (zw (i:=1) (show(["total", "number", "house", "weights", "handicaps", "row", "totals", "part"]:List Str).Nodup by decide +kernel) rfl (Or.inl rfl)) (@au _))))) (fun _=>(@yi _)) (fun _=>(@zt _ _ _ _ _ _ _ _ wf (pv 0) (pv 1))) rfl (by decide +kernel) rfl rfl rfl)))) (@zd _ _ _ (PS.nox (@zp _ _ _ _ (pv 4))))))),?_⟩;rw[show start ["house", "weights", "handicaps", "row", "totals", "part"] [V.ref p,V.ref l,V.ref m,V.ref r]=[some (V.ref p),some (V.ref l),some (V.ref m),some (V.ref r),none,none] from rfl];simp only[zg,zh,↓reduceIte];refine⟨p,o,h,l,m,hs,outs,ds,ws,hc,rfl,hH,G,hl,lw,gw,hm,lh,gh,fun H1 S1 => ?_⟩;simp only[zg,zh,↓reduceIte];refine⟨_,.inl (.of (S1 _ _ hm)),fun t ht => ?_⟩;obtain⟨S2,t2⟩:=lay ht (.lst (hc.map V.int));generalize upd H1 t (.lst (hc.map V.int))=H2 at *;have S12:=S1.trans S2;refine⟨p,o,h,l,r,hs,outs,ds,ws,row,rfl,hH.mono S12,G,S12 _ _ hl,lw,gw,S12.seqT hrow,R,fun H3 lp ls S3 hlp hI=>⟨lp,rfl,⟨_,.of hlp⟩,?_⟩⟩;have pl:(yw ds ws row ds.length).length=ds.length:=ck _ _ _ _
    have pw:∀q∈yw ds ws row ds.length,q.length=outs.length:=fun q hq=>by
      obtain⟨i,hi,rfl⟩:=Zp.mp hq;exact re G lw R (ZT.mp hi)
    generalize yw ds ws row ds.length=ps at *;refine wn (xs:=ls.map V.ref) (PvSc p l m r lp H H3 ls ps hc) ⟨Same.refl _,t,_,S1.free ht,S3 _ _ t2,rfl⟩ ?_ ?_ ?_
    . rintro i σ H4 hi ⟨S4,t4,v,hn4,ht4,rfl⟩
      exact .of (S4 _ _ hlp)
    . rintro i x σ H4 hx ⟨S4,t4,v,hn4,ht4,rfl⟩
      obtain⟨c,hcx,rfl⟩:=yu hx;have hi:i<ps.length:=by have:=(Zc.mp hcx).1;have:=hI.len;omega
      have ep:ps[i]? = some ps[i]:=Zb hi;have hp4:=S4 _ _ (hI.at' i c _ hcx ep);have lp4:=pw _ (Zl hi);have ls4:(yt hc (ps.take i)).length=outs.length:=qq _ _ lh fun q hq=>pw q (List.mem_of_mem_take hq)
      have ho8:=G.outs1.2;generalize ps[i]=pt at *;simp only[zg,zh,↓reduceIte];refine⟨⟨_,.of ht4⟩,⟨_,.of hp4⟩,fun dd => ?_⟩;refine zjt (xs:=(yt hc (ps.take i)).map V.int) (zs:=pt.map V.int) (PvZw H4 (yt hc (ps.take i)) pt) ⟨Same.refl _,rfl⟩ ?_ ?_ ?_
      . rintro j ys H5 hj ⟨S5,rfl⟩
        refine⟨?_,.of (S5 _ _ ht4),.of (S5 _ _ hp4)⟩;rw[Za,Yv,Zj,Zj];exact Zd (show _<=8 by omega) (by decide)
      . rintro j x z ys H5 T hx hz hT ⟨S5,rfl⟩
        rw[Ze]at hx hz
        obtain⟨x',hx'⟩:∃y,(yt hc (ps.take i))[j]? = some y:=by
          cases e:(yt hc (ps.take i))[j]? with
          | none=>rw[e]at hx;cases hx
          | some y=>exact⟨y,rfl⟩
        obtain⟨z',hz'⟩:∃y,pt[j]? = some y:=by
          cases e:pt[j]? with
          | none=>rw[e]at hz;cases hz
          | some y=>exact⟨y,rfl⟩
        rw[hx']at hx;rw[hz']at hz;cases hx;cases hz;have S6:Same H5 (upd H5 T (.tup [V.int x',V.int z'])):=Same.upd (Same.refl _) hT;simp only[zg,zh,↓reduceIte];refine⟨_,.of zn,rfl,?_⟩;generalize upd H5 T (.tup [V.int x',V.int z'])=H6 at *;simp only[zg,zh,↓reduceIte];refine⟨S5.trans S6,?_⟩;rw[zkm hx' hz',Zn];rfl
      . rintro ys H5 ⟨S5,rfl⟩ t5 ht5
        have e1:(yt hc (ps.take i)).take outs.length=yt hc (ps.take i):=ZG (by omega);have e2:pt.take outs.length=pt:=ZG (by omega);rw[Za,Za,ls4,lp4,YZ,e1,e2];refine⟨S4.trans (S5.trans (Same.upd (Same.refl _) ht5)),t5,_,?_,?_,rfl⟩
        . exact(S12.trans (S3.trans (S4.trans S5))).free ht5
        . rw[zn,Zq,ep]
          show _=some (HO.lst ((yt hc (ps.take i++[pt])).map V.int))
          rw[ft]
    . rintro σ H4 ⟨S4,t4,v,hn4,ht4,rfl⟩
      simp only[zg,zh,↓reduceIte];rw[Za,hI.len,Zt]at ht4;exact q H4 t4 (S12.trans (S3.trans S4)) hn4 ht4
end
def nv(ts:List Int):Nat:=ts.idxOf (ts.max?.getD 0)
theorem zim{ts:List Int}{m:Int}(h1:m∈ts)(h2:∀a∈ts,a<=m):ts.max?.getD 0=m:=by
  have:ts.max? = some m:=List.max?_eq_some_iff.mpr ⟨h1,h2⟩;rw[this];rfl
theorem gq:∀{zs:List Int} {m:Nat} {z:Int},zs[m]? = some z->zs.idxOf z<=m
  | [],m,z,h=>by simp at h
  | y::zs,0,z,h=>by
    simp at h;subst h;simp
  | y::zs,m+1,z,h=>by
    rw[List.idxOf_cons]
    cases y==z with
    | true=>exact ZE _
    | false=>exact YB (gq (by simpa using h))
theorem zfh(y z:Int):eqV (V.int y) (V.int z)=decide (y=z):=by
  show(y==z)=decide (y=z)
  by_cases h:y=z
  . subst h;simp
  . simp[h]
theorem zhv{zs:List Int}{z:Int}(h:z∈zs):FirstAt (zs.map V.int) (V.int z) (zs.idxOf z):=by
  have hl:=Zz.mpr h;refine⟨rfl,?_,⟨V.int z,?_,?_⟩,fun m y hm e => ?_⟩
  . rw[ZS]
    intro x hx;obtain⟨y,_,rfl⟩:=Zp.mp hx;rfl
  . rw[Ze,Zb hl,YS]
    rfl
  . rw[zfh]
    exact decide_eq_true rfl
  . rw[Ze]at e
    have hml:m<zs.length:=by omega
    rw[Zb hml]at e;cases e;rw[zfh,decide_eq_false];intro ez;have hle:zs.idxOf z<=m:=gq (by rw[Zb hml,ez]);omega
def zhz(K:Fg):Sp:=fun vs H Q _=>∃(t:Addr) (ts:List Int),vs=[.ref t]/\SqL K H t (ts.map V.int)/\0<ts.length/\Q (.int (nv ts)) H
section
variable{P:Program}{w:World}{K:Fg}{mg:Str->Option Value}{base:Heap}{a:Ad}
theorem m6 (B:Bt mg) (D:zc K mg "best_place" rq ["totals"]):FnAt P w K mg base "best_place" 1 ["totals"] (zhz K):=by
  refine FnAt.of D zbm (fun vs H Q E h => ?_) (fun f cdv A outer s H vs Q E hr h => ?_)
  . obtain⟨t,ts,rfl,_⟩:=h
    rfl
  . obtain⟨t,ts,rfl,ht,h0,q⟩:=h
    refine⟨_,(@zd _ _ _ (@zp _ _ _ _ (y8 PySem.F.plainAttrs_list PySem.F.slot_list_index PySem.F.type_list_index zbg (pv 0) (za (zx (zax rfl) rfl B.max zia (za (pv 0) (@zb _))) (@zb _))))),?_⟩;rw[show start ["totals"] [V.ref t]=[some (V.ref t)] from rfl];simp only[zg,zh,↓reduceIte];refine⟨.inl ⟨rfl,_,ht⟩,_,ht,h0,fun m hm1 hm2=>⟨_,ht,_,zhv hm1,?_⟩⟩;rw[nv,zim hm1 hm2]at q;exact q
end
def u0(outs:List Str)(ds:List HD)(ws hc:List Int)(row:List Str):Str:=outs.getD (nv (yt hc (yw ds ws row ds.length))) ⟨#[]⟩
def qo(r:List Str):List Key:=r.map Sum.inr
theorem zau(r:List Str):(qo r).map kV=r.map V.str:=by
  rw[qo,Yz];rfl
theorem bi{r q:List Str}(h:qo r=qo q):r=q:=by
  induction r generalizing q with
  | nil=>cases q with
    | nil=>rfl
    | cons _ _=>cases h
  | cons x xs ih=>cases q with
    | nil=>cases h
    | cons y ys =>
      rw[qo,qo,ZM,ZM]at h
      injection h with h1 h2
      injection h1 with h1
      rw[h1,ih h2]
def xr(f:List Str->Str)(rs:List (List Str)):List (List Key×V):=rs.map fun r=>(qo r,V.str (f r))
theorem zeb(f:List Str->Str)(rs:List (List Str)):(xr f rs).map (·.1)=rs.map qo:=by rw[xr,Yz];rfl
theorem zay{f:List Str->Str}{rs:List (List Str)}(h:rs.Nodup):((xr f rs).map (·.1)).Nodup:=by
  rw[zeb];exact YV.mpr (List.Pairwise.imp (fun {a b} hab e=>hab (bi e)) h)
theorem zgg{f:List Str->Str}{rs:List (List Str)}{r:List Str}(h:r∈rs):valV (xr f rs) (qo r)=some (V.str (f r)):=by
  induction rs with
  | nil=>cases h
  | cons q rs ih =>
    rw[xr,ZM]
    by_cases e:q=r
    . rw[j2 (by rw[e]),e]
    . rw[j7 (fun z=>e (bi z))]
      exact ih ((ZK.mp h).resolve_left fun z=>e z.symm)
theorem zkf{ts:List Int}(h0:0<ts.length):nv ts<ts.length:=by
  have:ts.max?.getD 0∈ts:=by
    cases e:ts.max? with
    | none=>rw[List.max?_eq_none_iff]at e;rw[e]at h0;cases h0
    | some x=>exact(List.max?_eq_some_iff.mp e).1
  exact Zz.mpr this
theorem e6{ds:List HD}{row:List Str}(h:row∈yl (ds.map HD.words)):jy ds row:=by
  have hpk:=rowsP_iff.mp h;refine⟨by rw[hpk.1,Za],fun k d z e1 e2 => ?_⟩;obtain⟨u,h1,h2⟩:=hpk.2 k d.words (by rw[Ze,e1];rfl);rw[e2]at h1;cases h1;exact h2
def zbc(K:Fg):Sp:=fun vs H Q _=>∃(p o h l m r:Addr) (hs:List Addr) (outs:List Str) (ds:List HD) (ws hc:List Int) (row:List Str),vs=[.ref p,.ref l,.ref m,.ref r]/\HHouse H p o h hs outs ds/\GoodHouse outs ds/\H l=some (.lst (ws.map V.int))/\ws.length=ds.length/\(∀i∈ws,wj i/\1<=i)/\H m=some (.lst (hc.map V.int))/\hc.length=outs.length/\(∀i∈hc,wj i)/\SqT K H r (row.map V.str)/\jy ds row /\
  ∀H',Same H H'->Q (.str (u0 outs ds ws hc row)) H'
def eh(K:Fg):Sp:=fun vs H Q _=>∃(p o h l m:Addr) (hs:List Addr) (outs:List Str) (ds:List HD) (ws hc:List Int),vs=[.ref p,.ref l,.ref m]/\HHouse H p o h hs outs ds/\GoodHouse outs ds/\H l=some (.lst (ws.map V.int))/\ws.length=ds.length/\(∀i∈ws,wj i/\1<=i)/\H m=some (.lst (hc.map V.int))/\hc.length=outs.length/\(∀i∈hc,wj i) /\
  ∀H' t,Same H H'->H' t=some (.dT (xr (u0 outs ds ws hc) (yl (ds.map HD.words))))->Q (.ref t) H'
def PvBT(H:Hp)(f:List Str->Str)(rs:List (List Str))(i:Nat)(ys:List V)(H':Hp):Prop:=Same H H'/\∃Ts:List Addr,ys=Ts.map V.ref/\uz H' Ts (xr f (rs.take i))
theorem pq{H H':Hp}{Ts:List Addr}{kvs:List (List Key×V)}(S:Same H H')(h:uz H Ts kvs):uz H' Ts kvs:=⟨h.len,fun i T kv e1 e2=>by
  obtain⟨b,h1,h2⟩:=h.at' i T kv e1 e2
  exact⟨b,S _ _ h1,S _ _ h2⟩⟩
theorem fu{H:Hp}{Ts:List Addr}{kvs:List (List Key×V)}{T b:Addr}{kv:List Key×V}(h:uz H Ts kvs)(hT:H T=some (.tup [.ref b,kv.2]))(hb:H b=some (.tup (kv.1.map kV))):uz H (Ts++[T]) (kvs++[kv]):=by
  refine⟨by simp[h.len],fun i a q e1 e2 => ?_⟩
  by_cases hi:i<Ts.length
  . rw[Zg hi]at e1
    rw[Zg (by rw[<-h.len];exact hi)]at e2;exact h.at' i a q e1 e2
  . rw[Zf (ZD.mp hi)]at e1
    rw[Zf (by rw[<-h.len];exact ZD.mp hi)]at e2
    have h0:i-Ts.length=0:=by
      have:=(Zc.mp e1).1;simp at this;omega
    rw[h0]at e1;rw[<-h.len,h0]at e2;simp at e1 e2;subst e1 e2;exact⟨b,hT,hb⟩
section
variable{P:Program}{w:World}{K:Fg}{mg:Str->Option Value}{base:Heap}{a:Ad}
theorem qv (B:Bt mg) (f_outcomes_of:FnAt P w K mg base "outcomes_of" 1 ["house"] (uq K 0)) (m6:FnAt P w K mg base "best_place" 1 ["totals"] (zhz K)) (di:FnAtX P w K mg base "scores" 6 ["house", "weights", "handicaps", "row"] (zci K)) (D:zc K mg "best_outcome" uo ["house", "weights", "handicaps", "row"]):FnAt P w K mg base "best_outcome" 7 ["house", "weights", "handicaps", "row"] (zbc K):=by
  refine FnAt.of D cc (fun vs H Q E h => ?_) (fun f cdv A outer s H vs Q E hr h => ?_)
  . obtain⟨p,o,h,l,m,r,hs,outs,ds,ws,hc,row,rfl,_⟩:=h
    rfl
  . obtain⟨p,o,h,l,m,r,hs,outs,ds,ws,hc,row,rfl,hH,G,hl,lw,gw,hm,lh,gh,hrow,R,q⟩:=h
    refine⟨_,(@zd _ _ _ (@zp _ _ _ _ (@z0 _ _ _ _ _ _ _ yq (zj f_outcomes_of (hr.mono (by decide)) rfl (za (pv 0) (@zb _))) (zj m6 (hr.mono (by decide)) rfl (za (zkl di (hr.mono (by decide)) rfl (za (pv 0) (za (pv 1) (za (pv 2) (za (pv 3) (@zb _)))))) (@zb _))) (fun _ _=>rfl)))),?_⟩;rw[show start ["house", "weights", "handicaps", "row"] [V.ref p,V.ref l,V.ref m,V.ref r]=[some (V.ref p),some (V.ref l),some (V.ref m),some (V.ref r)] from rfl];simp only[zg,zh,↓reduceIte];refine⟨p,_,_,rfl,.of hH.tup,rfl,?_⟩;refine⟨p,o,h,l,m,r,hs,outs,ds,ws,hc,row,rfl,hH,G,hl,lw,gw,hm,lh,gh,hrow,R,fun H1 t S1 _ ht => ?_⟩
    have pw:∀q∈yw ds ws row ds.length,q.length=outs.length:=fun q hq=>by
      obtain⟨i,hi,rfl⟩:=Zp.mp hq;exact re G lw R (ZT.mp hi)
    have hsl:(yt hc (yw ds ws row ds.length)).length=outs.length:=qq _ _ lh pw;have ho:=G.outs1;have hbl:nv (yt hc (yw ds ws row ds.length))<outs.length:=by rw[<-hsl];exact zkf (by omega)
    have hq:=q H1 S1;rw[u0,Zk,Zb hbl]at hq;exact⟨t,_,rfl,.of ht,by omega,o,rfl,_,_,rfl,.of (S1 _ _ hH.outs),_,zy (v:=V.str outs[nv (yt hc (yw ds ws row ds.length))]) (by rw[Ze,Zb hbl];rfl),hq⟩
theorem m8 (B:Bt mg) (oi:FnAt P w K mg base "rows_of" 3 ["house"] (de K)) (qv:FnAt P w K mg base "best_outcome" 7 ["house", "weights", "handicaps", "row"] (zbc K)) (D:zc K mg "best_table" qj ["house", "weights", "handicaps"]):FnAt P w K mg base "best_table" 8 ["house", "weights", "handicaps"] (eh K):=by
  refine FnAt.of D zbt (fun vs H Q E h => ?_) (fun f cdv A outer s H vs Q E hr h => ?_)
  . obtain⟨p,o,h,l,m,hs,outs,ds,ws,hc,rfl,_⟩:=h
    rfl
  . obtain⟨p,o,h,l,m,hs,outs,ds,ws,hc,rfl,hH,G,hl,lw,gw,hm,lh,gh,q⟩:=h
    refine⟨_,(@zd _ _ _ (@zp _ _ _ _ (y4 (af rfl (hu11 hr)) rfl B.dict zer (za (yj ["row"] ["house", "weights", "handicaps"] rfl (@ye _ _ _ _ (zj oi (hr.mono (by decide)) rfl (za (pv 0) (@zb _)))) (fun _=>(zw (i:=0) (show(["row", "house", "weights", "handicaps"]:List Str).Nodup by decide +kernel) rfl (Or.inl rfl))) (fun _=>(@yi _)) (fun _=>(@xn _ _ _ _ _ (za (pv 0) (za (zj qv (hr.mono (by decide)) rfl (za (pv 1) (za (pv 2) (za (pv 3) (za (pv 0) (@zb _)))))) (@zb _))))) rfl (by decide +kernel) rfl rfl) (@zb _))))),?_⟩;rw[show start ["house", "weights", "handicaps"] [V.ref p,V.ref l,V.ref m]=[some (V.ref p),some (V.ref l),some (V.ref m)] from rfl];simp only[zg,zh,↓reduceIte];have h4:=G.hands.2;have h8:∀d∈ds,d.words.length<=8:=fun d hd=>(G.words1 d hd).2
    refine⟨p,o,h,hs,outs,ds,rfl,hH.k,h4,h8,fun H1 rl as S1 _ R1=>⟨rl,rfl,⟨_,.of R1.lst⟩,fun dd => ?_⟩⟩
    have few:=ju (wss:=ds.map HD.words) (by rw[Za];exact h4) (fun ws hws=>by
      obtain⟨d,hd,rfl⟩:=Zp.mp hws
      exact h8 d hd) _ (Zm _)
    rw[Zt]at few
    have nd:(yl (ds.map HD.words)).Nodup:=f8 fun vs hvs=>by
      obtain⟨d,hd,rfl⟩:=Zp.mp hvs;exact(G.hand hd).wordsD
    have hin:∀r∈yl (ds.map HD.words),jy ds r:=fun r hr=>e6 hr
    generalize yl (ds.map HD.words)=rs at *;refine ym (xs:=as.map V.ref) (PvBT H1 (u0 outs ds ws hc) rs) ⟨Same.refl _,[],rfl,rfl,fun i T kv e=>by simp at e⟩ ?_ ?_ ?_
    . rintro i ys H2 hi ⟨S2,Ts,rfl,hP⟩
      refine⟨?_,.of (S2 _ _ R1.lst)⟩;rw[Za,hP.len,xr,Za,Zj];exact Zd (ZB _ _) (Zd few (by decide))
    . rintro i x ys H2 hx ⟨S2,Ts,rfl,hP⟩
      obtain⟨c,hcx,rfl⟩:=yu hx;have hi:i<rs.length:=by have:=(Zc.mp hcx).1;have:=R1.tups.len;omega
      have er:rs[i]? = some rs[i]:=Zb hi;have hrow:=S2 _ _ (R1.tups.at' i c _ hcx er);have hR:=hin _ (Zl hi);have S12:=S1.trans S2;simp only[zg,zh,↓reduceIte];refine⟨p,o,h,l,m,c,hs,outs,ds,ws,hc,rs[i],rfl,hH.mono S12,G,S12 _ _ hl,lw,gw,S12 _ _ hm,lh,gh,.of hrow,hR,fun H3 S3=>⟨by decide,fun T hT => ?_⟩⟩;have S4:Same H3 (upd H3 T (.tup [V.ref c,V.str (u0 outs ds ws hc rs[i])])):=Same.upd (Same.refl _) hT;refine⟨S2.trans (S3.trans S4),Ts++[T],by simp,?_⟩;rw[Zq,er]
      show uz _ _ (xr _ (rs.take i++[rs[i]]))
      rw[xr,Zn];exact fu (pq (S3.trans S4) hP) (b:=c) zn (by rw[zau];exact(S3.trans S4) _ _ hrow)
    . rintro ys H2 ⟨S2,Ts,rfl,hP⟩ l2 hl2
      rw[Za,R1.tups.len,Zt]at hP;have S3:Same H2 (upd H2 l2 (.lst (Ts.map V.ref))):=Same.upd (Same.refl _) hl2;refine⟨Ts,zn,_,pq S3 hP,fun t ht => ?_⟩;rw[zaq (zay nd)];exact q _ t (S1.trans (S2.trans (S3.trans (Same.upd (Same.refl _) ht)))) zn
end
def zam(C:Addr):Sp:=fun vs H Q _=>∃(x dx:Addr),vs=[.ref x]/\H x=some (.ins C dx [])/\Q .non (upd (upd H x (.ins C dx [("house", .non)])) x (.ins C dx [("house", .non),("table", .non)]))
section
variable{P:Program}{w:World}{K:Fg}{mg:Str->Option Value}{base:Heap}{a:Ad}
theorem bz (c_Desk:ug K mg "Desk" a.Desk "Desk.__init__" yn ["self"] ["house", "table"]):MkAt P w K mg base "Desk" a.Desk 1 ["self"] (zam a.Desk):=by
  refine zlt c_Desk du (fun vs H Q E h => ?_) (fun f cdv A outer s H vs Q E hr h => ?_)
  . obtain⟨x,dx,rfl,_⟩:=h
    rfl
  . obtain⟨x,dx,rfl,hx,q⟩:=h
    refine⟨_,(@ze _ _ _ _ _ (@ir _ _ _ _ _ _ _ _ (pv 0) (@ql _ _ _) rfl) (@zd _ _ _ (@ir _ _ _ _ _ _ _ _ (pv 0) (@ql _ _ _) rfl))),?_⟩;rw[show start ["self"] [V.ref x]=[some (V.ref x)] from rfl];simp only[zg,zh,↓reduceIte];exact⟨_,_,_,hx,c_Desk.cl,c_Desk.no _ (by simp),by decide,_,_,_,zn,c_Desk.cl,c_Desk.no _ (by simp),by decide,q⟩
end
theorem fig_ok{c:Nat}(h1:48<=c)(h2:c<=57):(!decide ((chr1 c).cps.toList<(Str.ofString "0").cps.toList))=true/\(!decide ((Str.ofString "9").cps.toList<(chr1 c).cps.toList))=true:=by
  have ea:(Str.ofString "0").cps.toList=[48]:=by decide +kernel
  have ez:(Str.ofString "9").cps.toList=[57]:=by decide +kernel
  have ec:(chr1 c).cps.toList=[c]:=rfl;rw[ea,ez,ec]
  constructor
  . rw[decide_eq_false]
    . rfl
    . intro z
      rw[Yp]at z
      rcases z with z | ⟨_,z⟩
      . omega
      . exact absurd z (by simp)
  . rw[decide_eq_false]
    . rfl
    . intro z
      rw[Yp]at z
      rcases z with z | ⟨_,z⟩
      . omega
      . exact absurd z (by simp)
theorem nj:(Str.ofString "-").cps.toList=[45]:=by decide +kernel
theorem zgn{x:Str}{cs:List Nat}(h:x.cps.toList=45::cs):Txt.startswith x (Str.ofString "-")=true:=by
  have h1:(Str.ofString "-").length=1:=by rw[vt,nj];rfl
  unfold Txt.startswith;rw[StrLaws.subAt_eq,h,h1,nj,vt,h];simp
theorem zgp{x:Str}{c:Nat}{cs:List Nat}(h:x.cps.toList=c::cs)(hc:c≠45):Txt.startswith x (Str.ofString "-")=false:=by
  have h1:(Str.ofString "-").length=1:=by rw[vt,nj];rfl
  unfold Txt.startswith;rw[StrLaws.subAt_eq,h,h1,nj,vt,h];simp[hc]
def zhm:Sp:=fun vs H Q _=>∃x:Str,vs=[.str x]/\PySem.NumText.AllDigits x.cps.toList/\1<=x.length/\x.length<=60/\∀H',Same H H'->Q (.bl true) H'
def ze2:Sp:=fun vs H Q _=>∃n:Int,vs=[.str (intS n)] /\ -(10^60)<n/\n<10^60/\∀H',Same H H'->Q (.int n) H'
section
variable{P:Program}{w:World}{K:Fg}{mg:Str->Option Value}{base:Heap}{a:Ad}
theorem o5 (B:Bt mg) (D:zc K mg "are_figures" tj ["text"]):FnAt P w K mg base "are_figures" 1 ["text"] zhm:=by
  refine FnAt.of D zae (fun vs H Q E h => ?_) (fun f cdv A outer s H vs Q E hr h => ?_)
  . obtain⟨x,rfl,_⟩:=h
    rfl
  . obtain⟨z,rfl,g1,g2,g3,q⟩:=h
    refine⟨_,(@zd _ _ _ (@zp _ _ _ _ (@uy _ _ _ _ _ _ _ (d9 j8 j8 (@zi _ _ _ _) (zx gb rfl B.len xi (za (pv 0) (@zb _))) (uc rfl B.k_MOST_FIGURES)) (@u9 _ _ _ _ _ (zx (ub rfl) rfl B.all ll (za (yj ["sign"] ["text"] rfl (@zik _ _ _ _ (pv 0)) (fun _=>(zw (i:=0) (show(["sign", "text"]:List Str).Nodup by decide +kernel) rfl (Or.inl rfl))) (fun _=>(@yi _)) (fun _=>(d9 bv bv (@zm _ _ _ _) (pv 0) (@zm _ _ _ _))) rfl (by decide +kernel) rfl rfl) (@zb _))))))),?_⟩;rw[show start ["text"] [V.str z]=[some (V.str z)] from rfl];simp only[zg,zh,↓reduceIte];refine⟨Zd g3 (by decide),ite2 (fun _=>ite2 (fun _ => ?_) fun h=>(h (decide_eq_true (by omega))).elim) fun h=>(h (decide_eq_true (by omega))).elim⟩;intro d;refine zdh (PvAT H) ⟨Same.refl _,rfl⟩ ?_ ?_ ?_
    . rintro i ys H' hi ⟨S,rfl⟩
      rw[sg];exact Zd hi (Zd (show z.cps.size<=60 from g3) (by decide))
    . rintro i c ys H' hc ⟨S,rfl⟩
      have hm:c∈z.cps.toList:=by
        obtain⟨hi,e⟩:=ZW.mp hc;rw[<-e];exact Array.getElem_mem_toList hi
      obtain⟨o1,o2⟩:=fig_ok (g1 c hm).1 (g1 c hm).2;simp only[zg,zh,↓reduceIte];rw[if_pos o1,o2];exact⟨S,ud i⟩
    . rintro ys H' ⟨S,rfl⟩ l hl
      refine⟨_,.of zn,?_⟩;rw[sh];exact q _ (S.trans (Same.upd (Same.refl _) hl))
theorem k9 (B:Bt mg) (o5:FnAt P w K mg base "are_figures" 1 ["text"] zhm) (D:zc K mg "number_of" pz ["text"]):FnAt P w K mg base "number_of" 2 ["text"] ze2:=by
  refine FnAt.of D sc_number_of (fun vs H Q E h => ?_) (fun f cdv A outer s H vs Q E hr h => ?_)
  . obtain⟨x,rfl,_⟩:=h
    rfl
  . obtain⟨n,rfl,h1,h2,q⟩:=h
    refine⟨_,(@ze _ _ _ _ _ (zz (i:=1) sc_number_of.nd rfl (Or.inl rfl) (@zj8 _ _ _ _ _ _ _ _ (yx (y8 PySem.F.plainAttrs_str PySem.F.slot_str_startswith PySem.F.type_str_startswith zi4 (pv 0) (za (@zm _ _ _ _) (@zb _)))) (@lc _ _ _ _ _ _ _ _ _ _ zl8 (pv 0) (@mj _ _ _ (@zi _ _ _ _)) (@jd _)) (pv 0))) (@ze _ _ _ _ _ (@yh _ _ _ _ _ _ _ _ (PW.pt (@ui _ _ _ _ _ _ _ (@yv _ _ _ _ (yx (zj o5 (hr.mono (by decide)) rfl (za (pv 1) (@zb _))))) (@vq _ _ _ _ (@yb _ _ _ _ _ _ _ _ ve (y4 l7 rfl B.str mv (za (y4 zbf rfl B.int zdu (za (pv 0) (@zb _))) (@zb _))) (pv 0) (yd _))))) (@zd _ _ _ (@zp _ _ _ _ (@ql _ _ _))) (@z7 _)) (@zd _ _ _ (@zp _ _ _ _ (y4 zbf rfl B.int zdu (za (pv 0) (@zb _))))))),?_⟩;rw[show start ["text", "figures"] [V.str (intS n)]=[some (V.str (intS n)),none] from rfl];simp only[zg,zh,↓reduceIte];have rd:=zgf (n:=n) (by omega) (by omega);have hl:=j1 (n:=n) (by omega) (by omega);have l640:(intS n).length<=640:=by omega
    have lz:(intS n).length<=sizeLine:=Zd hl (by decide);refine⟨rfl,?_⟩
    cases n with
    | ofNat m =>
      have e:(intS (Int.ofNat m)).cps.toList=figs m:=qu m
      obtain⟨c,cs,ec⟩:∃c cs,figs m=c::cs:=by
        cases h:figs m with
        | nil=>exact absurd h (fe m)
        | cons c cs=>exact⟨c,cs,rfl⟩
      have hc:=va m c (by rw[ec];exact ZA);rw[if_neg (by rw[zgp (e.trans ec) (by omega)];simp)];refine⟨_,rfl,by rw[show(intS (Int.ofNat m)).cps.toList=figs m from e];exact va m,?_,?_,fun H1 S1=>⟨true,rfl,iteF ⟨_,rd,l640,by omega,by omega,rfl,ite2 (fun h=>absurd h (by simp)) fun _=>⟨_,rd,l640,q _ S1⟩⟩⟩⟩
      . rw[vt,show(intS (Int.ofNat m)).cps.toList=figs m from e,ec]
        simp
      . rw[vt,show(intS (Int.ofNat m)).cps.toList=figs m from e]
        exact jz (by decide) (by have:((m:Nat):Int)<10^60:=h2;omega)
    | negSucc m =>
      have e:=jr m;have ed:(jo 1 (intS (Int.negSucc m))).cps.toList=figs (m+1):=by rw[md,e];rfl
      rw[if_pos (zgn e)];refine⟨1,rfl,lz,by rw[vt,e];simp,_,rfl,by rw[ed];exact va _,?_,?_,fun H1 S1=>⟨true,rfl,iteF ⟨_,rd,l640,by omega,by omega,rfl,ite2 (fun h=>absurd h (by simp)) fun _=>⟨_,rd,l640,q _ S1⟩⟩⟩⟩
      . rw[vt,ed]
        have:=fe (m+1)
        cases h:figs (m+1) with
        | nil=>exact absurd h this
        | cons c cs=>simp
      . rw[vt,ed]
        exact jz (by decide) (by omega)
end
def sayL(u:Str)(ns:List Int):List Str:=u::ns.map intS
def zcc:Sp:=fun vs H Q _=>∃(l:Addr) (ns:List Int),vs=[.ref l]/\H l=some (.lst ((ns.map intS).map V.str))/\ns.length<=64/\(∀n∈ns,-(10^60)<n/\n<10^60)/\∀H' l',Same H H'->H' l'=some (.lst (ns.map V.int))->Q (.ref l') H'
def PvNb(ns:List Int)(H:Hp)(i:Nat)(ys:List V)(H':Hp):Prop:=Same H H'/\ys=(ns.take i).map V.int
section
variable{P:Program}{w:World}{K:Fg}{mg:Str->Option Value}{base:Heap}{a:Ad}
theorem vf (B:Bt mg) (k9:FnAt P w K mg base "number_of" 2 ["text"] ze2) (D:zc K mg "numbers_of" rf ["words"]):FnAt P w K mg base "numbers_of" 3 ["words"] zcc:=by
  refine FnAt.of D zbk (fun vs H Q E h => ?_) (fun f cdv A outer s H vs Q E hr h => ?_)
  . obtain⟨l,ns,rfl,_⟩:=h
    rfl
  . obtain⟨l,ns,rfl,hl,l64,bn,q⟩:=h
    refine⟨_,(@zd _ _ _ (@zp _ _ _ _ (yj ["word"] ["words"] rfl (@ye _ _ _ _ (pv 0)) (fun _=>(zw (i:=0) (show(["word", "words"]:List Str).Nodup by decide +kernel) rfl (Or.inl rfl))) (fun _=>(@yi _)) (fun _=>(zj k9 (hr.mono (by decide)) rfl (za (pv 0) (@zb _)))) rfl (by decide +kernel) rfl rfl))),?_⟩;rw[show start ["words"] [V.ref l]=[some (V.ref l)] from rfl];simp only[zg,zh,↓reduceIte];refine⟨⟨_,.of hl⟩,fun dd => ?_⟩;refine ym (xs:=(ns.map intS).map V.str) (PvNb ns H) ⟨Same.refl _,rfl⟩ ?_ ?_ ?_
    . rintro i ys H2 hi ⟨S2,rfl⟩
      refine⟨?_,.of (S2 _ _ hl)⟩;rw[Za,Zj];exact Zd (ZB _ _) (Zd l64 (by decide))
    . rintro i y ys H2 hy ⟨S2,rfl⟩
      rw[Ze,Ze]at hy
      obtain⟨n,hn⟩:∃n,ns[i]? = some n:=by
        cases e:ns[i]? with
        | none=>rw[e]at hy;cases hy
        | some y=>exact⟨y,rfl⟩
      rw[hn]at hy;cases hy;obtain⟨b1,b2⟩:=bn n (Zi hn);simp only[zg,zh,↓reduceIte];refine⟨n,rfl,b1,b2,fun H3 S3=>⟨S2.trans S3,?_⟩⟩;rw[Zq,hn,Zn];rfl
    . rintro ys H2 ⟨S2,rfl⟩ l' hl'
      rw[Za,Za,Zt];exact q _ l' (S2.trans (Same.upd (Same.refl _) hl')) zn
end
def sayT(x:Str×List Int):Str:=Str.join (Str.ofString " ") (sayL x.1 x.2)
def wb(d:HD):List (Str×List Int):=d.words.zip d.worths
def xq(d:HD):Str:=Str.join (Str.ofString " = ") (d.name::(wb d).map sayT)
def uf(x:Str):Prop:=∀c∈x.cps.toList,97<=c/\c<=122
theorem sr{y:Str}{c:Nat}:∀{ps:List Str},c∈(Str.join y ps).cps.toList->c∈y.cps.toList\/∃p∈ps,c∈p.cps.toList
  | [],h=>by
    have:c∈([]:List Nat):=h;cases this
  | [p],h=>.inr ⟨p,ZA,h⟩
  | p::q::ps,h=>by
    have h':c∈(p++y++Str.join y (q::ps)).cps.toList:=h;simp only[Str.cps_append,Yu,ZV,ZH]at h'
    rcases h' with h | h | h
    . exact .inr ⟨p,ZA,h⟩
    . exact .inl h
    . rcases sr h with h | ⟨z,hz,h⟩
      . exact .inl h
      . exact .inr ⟨z,Zv _ hz,h⟩
theorem gg{n:Int}{c:Nat}(h:c∈(intS n).cps.toList):c=45\/(48<=c/\c<=57):=by
  cases n with
  | ofNat m=>exact .inr (va m c (by rw[<-qu];exact h))
  | negSucc m =>
    rw[jr]at h
    rcases ZK.mp h with z | z
    . exact .inl z
    . exact .inr (va _ c z)
theorem uk:(Str.ofString " ").cps.toList=[32]:=by decide +kernel
theorem zev:(Str.ofString " = ").cps.toList=[32,61,32]:=by decide +kernel
theorem i3{x:Str×List Int}(h:uf x.1){p:Str}(hp:p∈sayL x.1 x.2){c:Nat}(hc:c∈p.cps.toList):c=45\/(48<=c/\c<=57)\/(97<=c/\c<=122):=by
  rcases ZK.mp hp with rfl | hp
  . exact .inr (.inr (h c hc))
  . obtain⟨n,_,rfl⟩:=Zp.mp hp
    rcases gg hc with z | z
    . exact .inl z
    . exact .inr (.inl z)
theorem zhy{x:Str×List Int}(h:uf x.1):Txt.split (sayT x) (Str.ofString " ")=sayL x.1 x.2:=qm uk (by decide +kernel) (by simp[sayL]) fun p hp hc=>by
  have:=i3 h hp hc;omega
theorem zf6{d:HD}(hn:uf d.name)(h:∀x∈wb d,uf x.1):Txt.split (xq d) (Str.ofString " = ")=d.name::(wb d).map sayT:=k7 zev (by decide) (by decide +kernel) (by simp) fun p hp hc=>by
  rcases ZK.mp hp with rfl | hp
  . have:=hn _ hc
    omega
  . obtain⟨x,hx,rfl⟩:=Zp.mp hp
    rcases sr hc with z | ⟨p,hp,z⟩
    . rw[uk]at z
      simp at z
    . have:=i3 (h x hx) hp z
      omega
structure LsAt(H:Hp)(as:List Addr)(rs:List (List Str)):Prop where
  len:as.length=rs.length
  at':∀(i:Nat) (b:Addr) (r:List Str),as[i]? = some b->rs[i]? = some r->H b=some (.lst (r.map V.str))
theorem LsAt.mono{H H':Hp}{as:List Addr}{rs:List (List Str)}(S:Same H H')(h:LsAt H as rs):LsAt H' as rs:=⟨h.len,fun i b r e1 e2=>S _ _ (h.at' i b r e1 e2)⟩
structure NsAt(H:Hp)(as:List Addr)(rs:List (List Int)):Prop where
  len:as.length=rs.length
  at':∀(i:Nat) (b:Addr) (r:List Int),as[i]? = some b->rs[i]? = some r->H b=some (.lst (r.map V.int))
theorem NsAt.mono{H H':Hp}{as:List Addr}{rs:List (List Int)}(S:Same H H')(h:NsAt H as rs):NsAt H' as rs:=⟨h.len,fun i b r e1 e2=>S _ _ (h.at' i b r e1 e2)⟩
theorem zc5{α β:Type}{as:List α}{rs:List β}{b b':α}{r r':β}{i:Nat}(hl:as.length=rs.length)(e1:(as++[b])[i]? = some b')(e2:(rs++[r])[i]? = some r'):(as[i]? = some b'/\rs[i]? = some r')\/(b'=b/\r'=r):=by
  by_cases hi:i<as.length
  . rw[Zg hi]at e1
    rw[Zg (by omega)]at e2;exact .inl ⟨e1,e2⟩
  . have hx:i=as.length:=by
      have:=(Zc.mp e1).1;rw[Zo,Yd]at this;omega
    subst hx;rw[Zf (by omega),YF]at e1;rw[Zf (by omega),hl,YF]at e2;exact .inr ⟨(Option.some.inj e1).symm,(Option.some.inj e2).symm⟩
theorem LsAt.snoc{H:Hp}{as:List Addr}{rs:List (List Str)}{b:Addr}{r:List Str}(h:LsAt H as rs)(hb:H b=some (.lst (r.map V.str))):LsAt H (as++[b]) (rs++[r]):=⟨by simp[h.len],fun i b' r' e1 e2=>by
  rcases zc5 h.len e1 e2 with ⟨z1,z2⟩ | ⟨rfl,rfl⟩
  . exact h.at' i b' r' z1 z2
  . exact hb⟩
theorem NsAt.snoc{H:Hp}{as:List Addr}{rs:List (List Int)}{b:Addr}{r:List Int}(h:NsAt H as rs)(hb:H b=some (.lst (r.map V.int))):NsAt H (as++[b]) (rs++[r]):=⟨by simp[h.len],fun i b' r' e1 e2=>by
  rcases zc5 h.len e1 e2 with ⟨z1,z2⟩ | ⟨rfl,rfl⟩
  . exact h.at' i b' r' z1 z2
  . exact hb⟩
def PvSs(xs:List (Str×List Int))(H:Hp)(i:Nat)(ys:List V)(H':Hp):Prop:=Same H H'/\∃ss:List Addr,ys=ss.map V.ref/\LsAt H' ss ((xs.take i).map fun x=>sayL x.1 x.2)
def PvWd(xs:List (Str×List Int))(H:Hp)(i:Nat)(ys:List V)(H':Hp):Prop:=H'=H/\ys=(xs.take i).map fun x=>V.str x.1
def PvGw(xs:List (Str×List Int))(H:Hp)(i:Nat)(ys:List V)(H':Hp):Prop:=Same H H'/\∃gs:List Addr,ys=gs.map V.ref/\NsAt H' gs ((xs.take i).map fun x=>x.2)
def zfn:Sp:=fun vs H Q _=>∃d:HD,vs=[.str (xq d)]/\uf d.name/\(∀x∈wb d,uf x.1/\x.2.length<=8/\(∀n∈x.2,-(10^60)<n/\n<10^60)/\(sayT x).length<=sizeLine)/\(wb d).length<=8/\d.words.length=d.worths.length/\(xq d).length<=sizeLine/\∀H' x,Same H H'->HandAt H' x d->Q (.ref x.t) H'
theorem cut1(x:Str)(ys:List Str):cutV ((x::ys).map V.str) (some 1) none=ys.map V.str:=zie (k:=1) (by simp)
section
variable{P:Program}{w:World}{K:Fg}{mg:Str->Option Value}{base:Heap}{a:Ad}
theorem kr (B:Bt mg) (vf:FnAt P w K mg base "numbers_of" 3 ["words"] zcc) (D:zc K mg "hand_from" p7 ["text"]):FnAt P w K mg base "hand_from" 4 ["text"] zfn:=by
  refine FnAt.of D sc_hand_from (fun vs H Q E h => ?_) (fun f cdv A outer s H vs Q E hr h => ?_)
  . obtain⟨d,rfl,_⟩:=h
    rfl
  . obtain⟨d,rfl,pn,ps,l8,lw,lz,q⟩:=h
    refine⟨_,(@ze _ _ _ _ _ (zz (i:=1) sc_hand_from.nd rfl (Or.inl rfl) (y8 PySem.F.plainAttrs_str PySem.F.slot_str_split PySem.F.type_str_split vd (pv 0) (za (@zm _ _ _ _) (@zb _)))) (@ze _ _ _ _ _ (aj (i:=2) ["part"] ["text", "parts", "sayings"] sc_hand_from.nd rfl rfl rfl (@ye _ _ _ _ (@lc _ _ _ _ _ _ _ _ _ _ fj (pv 1) (@mj _ _ _ (@zi _ _ _ _)) (@jd _))) (fun _=>(zw (i:=0) (show(["part", "text", "parts", "sayings"]:List Str).Nodup by decide +kernel) rfl (Or.inl rfl))) (fun _=>(@yi _)) (fun _=>(y8 PySem.F.plainAttrs_str PySem.F.slot_str_split PySem.F.type_str_split vd (pv 0) (za (@zm _ _ _ _) (@zb _)))) rfl (by decide +kernel) rfl rfl rfl) (@zd _ _ _ (@zp _ _ _ _ (@xn _ _ _ _ _ (za (@z0 _ _ _ _ _ _ _ ya (pv 1) (@zi _ _ _ _) (fun _ _=>rfl)) (za (yj ["saying"] ["text", "parts", "sayings"] rfl (@ye _ _ _ _ (pv 2)) (fun _=>(zw (i:=0) (show(["saying", "text", "parts", "sayings"]:List Str).Nodup by decide +kernel) rfl (Or.inl rfl))) (fun _=>(@yi _)) (fun _=>(@z0 _ _ _ _ _ _ _ ya (pv 0) (@zi _ _ _ _) (fun _ _=>rfl))) rfl (by decide +kernel) rfl rfl) (za (yj ["saying"] ["text", "parts", "sayings"] rfl (@ye _ _ _ _ (pv 2)) (fun _=>(zw (i:=0) (show(["saying", "text", "parts", "sayings"]:List Str).Nodup by decide +kernel) rfl (Or.inl rfl))) (fun _=>(@yi _)) (fun _=>(zj vf (hr.mono (by decide)) rfl (za (@lc _ _ _ _ _ _ _ _ _ _ fj (pv 0) (@mj _ _ _ (@zi _ _ _ _)) (@jd _)) (@zb _)))) rfl (by decide +kernel) rfl rfl) (@zb _))))))))),?_⟩;rw[show start ["text", "parts", "sayings"] [V.str (xq d)]=[some (V.str (xq d)),none,none] from rfl];simp only[zg,zh,↓reduceIte];have sp1:=zf6 pn fun x hx=>(ps x hx).1
    generalize hxs:wb d=xs at *;refine⟨rfl,by decide +kernel,lz,?_,fun l hl => ?_⟩
    . rw[sp1,ZL,Za]
      exact Zd (show _<=9 by omega) (by decide)
    rw[sp1];obtain⟨S1,t1⟩:=lay hl (.lst ((d.name::xs.map sayT).map V.str));generalize upd H l (.lst ((d.name::xs.map sayT).map V.str))=H1 at *;refine⟨_,.of t1,fun p hp => ?_⟩;rw[show cutV ((d.name::xs.map sayT).map V.str) (some 1) none=(xs.map sayT).map V.str from cut1 _ _];obtain⟨S2,t2⟩:=lay hp (.lst ((xs.map sayT).map V.str));generalize upd H1 p (.lst ((xs.map sayT).map V.str))=H2 at *;refine⟨⟨_,.of t2⟩,fun dd => ?_⟩;refine ym (xs:=(xs.map sayT).map V.str) (PvSs xs H2) ⟨Same.refl _,[],rfl,rfl,fun i b r e=>by simp at e⟩ ?_ ?_ ?_
    . rintro i ys H3 hi ⟨S3,ss,rfl,L3⟩
      refine⟨?_,.of (S3 _ _ t2)⟩;rw[Za,L3.len,Za,Zj];exact Zd (ZB _ _) (Zd l8 (by decide))
    . rintro i y ys H3 hy ⟨S3,ss,rfl,L3⟩
      rw[Ze,Ze]at hy
      obtain⟨x,hx⟩:∃x,xs[i]? = some x:=by
        cases e:xs[i]? with
        | none=>rw[e]at hy;cases hy
        | some y=>exact⟨y,rfl⟩
      rw[hx]at hy;cases hy;obtain⟨p1,p2,p3,p4⟩:=ps x (Zi hx);simp only[zg,zh,↓reduceIte];rw[zhy p1];refine⟨rfl,by decide +kernel,p4,?_,fun m hm => ?_⟩
      . rw[sayL,ZL,Za]
        exact Zd (show _<=9 by omega) (by decide)
      have S4:Same H3 (upd H3 m (.lst ((sayL x.1 x.2).map V.str))):=Same.upd (Same.refl _) hm;refine⟨S3.trans S4,ss++[m],by simp,?_⟩;rw[Zq,hx,Zn];exact(L3.mono S4).snoc zn
    . rintro ys H3 ⟨S3,ss,rfl,L3⟩ g hg
      rw[Za,Za,Zt]at L3;obtain⟨S4,t4⟩:=lay hg (.lst (ss.map V.ref));generalize upd H3 g (.lst (ss.map V.ref))=H4 at *;have L4:=L3.mono S4;have S14:=S2.trans (S3.trans S4);have ls:=L4.len;rw[Za]at ls;refine⟨_,.of (S14 _ _ t1),V.str d.name,zy (j:=0) rfl,⟨_,.of t4⟩,fun _ => ?_⟩;refine ym (xs:=ss.map V.ref) (PvWd xs H4) ⟨rfl,rfl⟩ ?_ ?_ ?_
      . rintro i ys H5 hi ⟨rfl,rfl⟩
        refine⟨?_,.of t4⟩;rw[Za,Zj];exact Zd (ZB _ _) (Zd l8 (by decide))
      . rintro i y ys H5 hy ⟨rfl,rfl⟩
        obtain⟨c,hc,rfl⟩:=m7 hy;have hi:i<xs.length:=by have:=(Zc.mp hc).1;omega
        have hx:xs[i]? = some xs[i]:=Zb hi;generalize xs[i]=x at hx;have hcl:=L4.at' i c (sayL x.1 x.2) hc (by rw[Ze,hx];rfl);simp only[zg,zh,↓reduceIte];refine⟨_,.of hcl,V.str x.1,zy (j:=0) rfl,rfl,?_⟩;rw[Zq,hx,Zn];rfl
      . rintro ys H5 ⟨rfl,rfl⟩ wl hwl
        rw[Za,ls,Zt];obtain⟨S6,t6⟩:=lay hwl (.lst (xs.map fun x=>V.str x.1));generalize upd H5 wl (.lst (xs.map fun x=>V.str x.1))=H6 at *;refine⟨⟨_,.of (S6 _ _ t4)⟩,fun _ => ?_⟩;refine ym (xs:=ss.map V.ref) (PvGw xs H6) ⟨Same.refl _,[],rfl,rfl,fun i b r e=>by simp at e⟩ ?_ ?_ ?_
        . rintro i ys H7 hi ⟨S7,gs,rfl,N7⟩
          refine⟨?_,.of (S7 _ _ (S6 _ _ t4))⟩;rw[Za,N7.len,Za,Zj];exact Zd (ZB _ _) (Zd l8 (by decide))
        . rintro i y ys H7 hy ⟨S7,gs,rfl,N7⟩
          obtain⟨c,hc,rfl⟩:=m7 hy;have hi:i<xs.length:=by have:=(Zc.mp hc).1;omega
          have hx:xs[i]? = some xs[i]:=Zb hi;generalize xs[i]=x at hx;obtain⟨p1,p2,p3,p4⟩:=ps x (Zi hx);have hcl:=(S6.trans S7) _ _ (L4.at' i c (sayL x.1 x.2) hc (by rw[Ze,hx];rfl));simp only[zg,zh,↓reduceIte];refine⟨_,.of hcl,fun e he => ?_⟩;rw[show cutV ((sayL x.1 x.2).map V.str) (some 1) none=(x.2.map intS).map V.str from cut1 _ _];have S8:Same H7 (upd H7 e (.lst ((x.2.map intS).map V.str))):=Same.upd (Same.refl _) he;refine⟨e,x.2,rfl,zn,by omega,p3,fun H9 l9 S9 h9=>⟨S7.trans (S8.trans S9),gs++[l9],by simp,?_⟩⟩;rw[Zq,hx,Zn];exact(N7.mono (S8.trans S9)).snoc h9
        . rintro ys H7 ⟨S7,gs,rfl,N7⟩ gl hgl
          rw[Za,ls,Zt]at N7;obtain⟨S8,t8⟩:=lay hgl (.lst (gs.map V.ref));generalize upd H7 gl (.lst (gs.map V.ref))=H8 at *;refine⟨by decide,fun tp htp => ?_⟩;have S9:Same H8 (upd H8 tp (.tup [V.str d.name,V.ref wl,V.ref gl])):=Same.upd (Same.refl _) htp;refine q _ ⟨tp,wl,gl,gs⟩ (S1.trans (S14.trans (S6.trans (S7.trans (S8.trans S9))))) ⟨zn,?_,S9 _ _ t8,?_,fun i r ns e1 e2 => ?_⟩
          . have e:xs.map (fun x=>V.str x.1)=d.words.map V.str:=by
              rw[<-hxs,wb,<-List.map_fst_zip (l₁:=d.words) (l₂:=d.worths) (by omega),Yz,List.map_fst_zip (by omega)];rfl
            rw[<-e];exact(S7.trans (S8.trans S9)) _ _ t6
          . have e:xs.map (fun x=>x.2)=d.worths:=by rw[<-hxs,wb];exact List.map_snd_zip (by omega)
            rw[<-e];exact N7.len
          . have e:xs.map (fun x=>x.2)=d.worths:=by rw[<-hxs,wb];exact List.map_snd_zip (by omega)
            rw[<-e]at e2;exact(N7.mono (S8.trans S9)).at' i r ns e1 e2
end
def vy(outs:List Str)(ds:List HD):Str:=Str.join (Str.ofString " / ") (Str.join (Str.ofString " ") outs::ds.map xq)
theorem zdb:(Str.ofString " / ").cps.toList=[32,47,32]:=by decide +kernel
structure cu(outs:List Str)(ds:List HD):Prop where
  plain:∀x∈outs,uf x
  name:∀d∈ds,uf d.name
  says:∀d∈ds,∀x∈wb d,uf x.1/\x.2.length<=8/\(∀n∈x.2,-(10^60)<n/\n<10^60)/\(sayT x).length<=sizeLine
  len:∀d∈ds,(xq d).length<=sizeLine
  olen:(Str.join (Str.ofString " ") outs).length<=sizeLine
  all:(vy outs ds).length<=sizeLine
theorem b9{outs:List Str}(h0:outs≠[])(h:∀x∈outs,uf x):Txt.split (Str.join (Str.ofString " ") outs) (Str.ofString " ")=outs:=qm uk (by decide +kernel) h0 fun p hp hc=>by
  have:=h p hp _ hc;omega
theorem zd5{outs:List Str}{ds:List HD}(T:cu outs ds):Txt.split (vy outs ds) (Str.ofString " / ")=Str.join (Str.ofString " ") outs::ds.map xq:=k7 zdb (by decide) (by decide +kernel) (by simp) fun p hp hc=>by
  rcases ZK.mp hp with rfl | hp
  . rcases sr hc with z | ⟨p,hp,z⟩
    . rw[uk]at z
      simp at z
    . have:=T.plain p hp _ z
      omega
  . obtain⟨d,hd,rfl⟩:=Zp.mp hp
    rcases sr hc with z | ⟨p,hp,z⟩
    . rw[zev]at z
      simp at z
    . rcases ZK.mp hp with rfl | hp
      . have:=T.name d hd _ z
        omega
      . obtain⟨x,hx,rfl⟩:=Zp.mp hp
        rcases sr z with z | ⟨p,hp,z⟩
        . rw[uk]at z
          simp at z
        . have:=i3 (T.says d hd x hx).1 hp z
          omega
def zfd:Sp:=fun vs H Q _=>∃(outs:List Str) (ds:List HD),vs=[.str (vy outs ds)]/\GoodHouse outs ds/\cu outs ds/\∀H' p o h hs,Same H H'->HHouse H' p o h hs outs ds->Q (.ref p) H'
def PvHd(ds:List HD)(H:Hp)(i:Nat)(ys:List V)(H':Hp):Prop:=Same H H'/\∃xs:List HX,ys=xs.map (fun x=>V.ref x.t)/\xs.length=(ds.take i).length/\∀(j:Nat) (x:HX) (d:HD),xs[j]? = some x->(ds.take i)[j]? = some d->HandAt H' x d
section
variable{P:Program}{w:World}{K:Fg}{mg:Str->Option Value}{base:Heap}{a:Ad}
theorem mz (B:Bt mg) (kr:FnAt P w K mg base "hand_from" 4 ["text"] zfn) (f_house_of:FnAtX P w K mg base "house_of" 7 ["outcomes", "hands"] zda) (D:zc K mg "read_house" qd ["text"]):FnAtX P w K mg base "read_house" 8 ["text"] zfd:=by
  refine FnAtX.of D sc_read_house (fun vs H Q E h => ?_) (fun f cdv A outer s H vs Q E hr h => ?_)
  . obtain⟨outs,ds,rfl,_⟩:=h
    rfl
  . obtain⟨outs,ds,rfl,G,T,q⟩:=h
    refine⟨_,(@ze _ _ _ _ _ (PS.nox (zz (i:=1) sc_read_house.nd rfl (Or.inl rfl) (y8 PySem.F.plainAttrs_str PySem.F.slot_str_split PySem.F.type_str_split vd (pv 0) (za (@zm _ _ _ _) (@zb _))))) (@zd _ _ _ (@zp _ _ _ _ (vc f_house_of (hr.mono (by decide)) (xx rfl) rfl (za (y8 PySem.F.plainAttrs_str PySem.F.slot_str_split PySem.F.type_str_split vd (@z0 _ _ _ _ _ _ _ ya (pv 1) (@zi _ _ _ _) (fun _ _=>rfl)) (za (@zm _ _ _ _) (@zb _))) (za (yj ["part"] ["text", "parts"] rfl (@ye _ _ _ _ (@lc _ _ _ _ _ _ _ _ _ _ fj (pv 1) (@mj _ _ _ (@zi _ _ _ _)) (@jd _))) (fun _=>(zw (i:=0) (show(["part", "text", "parts"]:List Str).Nodup by decide +kernel) rfl (Or.inl rfl))) (fun _=>(@yi _)) (fun _=>(zj kr (hr.mono (by decide)) rfl (za (pv 0) (@zb _)))) rfl (by decide +kernel) rfl rfl) (@zb _))))))),?_⟩;rw[show start ["text", "parts"] [V.str (vy outs ds)]=[some (V.str (vy outs ds)),none] from rfl];simp only[zg,zh,↓reduceIte];have d4:=G.hands;have o8:=G.outs1;have sp1:=zd5 T;have sp2:=b9 (outs:=outs) (fun e=>by rw[e]at o8;simp at o8) T.plain;refine⟨rfl,by decide +kernel,T.all,?_,fun l hl => ?_⟩
    . rw[sp1,ZL,Za]
      exact Zd (show _<=9 by omega) (by decide)
    rw[sp1];obtain⟨S1,t1⟩:=lay hl (.lst ((Str.join (Str.ofString " ") outs::ds.map xq).map V.str));generalize upd H l (.lst ((Str.join (Str.ofString " ") outs::ds.map xq).map V.str))=H1 at *;refine⟨_,.of t1,V.str (Str.join (Str.ofString " ") outs),zy (j:=0) rfl,rfl,_,rfl,by decide +kernel,T.olen,?_,fun o ho => ?_⟩
    . rw[sp2]
      exact Zd (show _<=9 by omega) (by decide)
    rw[sp2];obtain⟨S2,t2⟩:=lay ho (.lst (outs.map V.str));generalize upd H1 o (.lst (outs.map V.str))=H2 at *;refine⟨_,.of (S2 _ _ t1),fun p hp => ?_⟩;rw[show cutV ((Str.join (Str.ofString " ") outs::ds.map xq).map V.str) (some 1) none=(ds.map xq).map V.str from cut1 _ _];obtain⟨S3,t3⟩:=lay hp (.lst ((ds.map xq).map V.str));generalize upd H2 p (.lst ((ds.map xq).map V.str))=H3 at *;refine⟨⟨_,.of t3⟩,fun dd => ?_⟩;refine ym (xs:=(ds.map xq).map V.str) (PvHd ds H3) ⟨Same.refl _,[],rfl,rfl,fun j x d e=>by simp at e⟩ ?_ ?_ ?_
    . rintro i ys H4 hi ⟨S4,xs,rfl,lx,A4⟩
      refine⟨?_,.of (S4 _ _ t3)⟩;rw[Za,lx,Zj];exact Zd (ZB _ _) (Zd (show _<=4 by omega) (by decide))
    . rintro i y ys H4 hy ⟨S4,xs,rfl,lx,A4⟩
      rw[Ze,Ze]at hy
      obtain⟨d,hd⟩:∃d,ds[i]? = some d:=by
        cases e:ds[i]? with
        | none=>rw[e]at hy;cases hy
        | some y=>exact⟨y,rfl⟩
      rw[hd]at hy;cases hy;have hm:=Zi hd;have w8:=(G.words1 d hm).2;have ro:=G.rows d hm;simp only[zg,zh,↓reduceIte];refine⟨d,rfl,T.name d hm,T.says d hm,?_,ro.symm,T.len d hm,fun H5 x S5 hx=>⟨S4.trans S5,xs++[x],by simp,?_,fun j x' d' e1 e2 => ?_⟩⟩
      . rw[wb,List.length_zip]
        omega
      . rw[Zq,hd,Zo,Zo,lx]
        rfl
      . rw[Zq,hd]at e2
        rcases zc5 lx e1 e2 with ⟨z1,z2⟩ | ⟨rfl,rfl⟩
        . exact(A4 j x' d' z1 z2).mono S5
        . exact hx
    . rintro ys H4 ⟨S4,xs,rfl,lx,A4⟩ b hb
      rw[Za,Za,Zt]at lx A4;obtain⟨S5,t5⟩:=lay hb (.lst (xs.map fun x=>V.ref x.t));generalize upd H4 b (.lst (xs.map fun x=>V.ref x.t))=H5 at *;exact⟨o,b,outs,xs,ds,rfl,(S3.trans (S4.trans S5)) _ _ t2,⟨t5,lx,fun i x d e1 e2=>(A4 i x d e1 e2).mono S5⟩,G,fun H' p' o' h' hs S' hH=>q H' p' o' h' hs (S1.trans (S2.trans (S3.trans (S4.trans (S5.trans S'))))) hH⟩
end
theorem zem{α:Type}{xs:List α}{k:Nat}{x:α}(h1:1<=k)(h2:k<=xs.length)(h:xs[xs.length-k]? = some x):atI xs (-(k:Int))=some x:=by
  unfold atI ixN;rw[if_neg (by omega),if_pos (by omega)]
  show xs[(-(k:Int)+xs.length).toNat]? = some x
  rw[show(-(k:Int)+xs.length).toNat=xs.length-k by omega];exact h
theorem zjp{xs:List V}{k:Nat}(h1:1<=k)(h2:k<=xs.length):cutV xs none (some (-(k:Int)))=xs.take (xs.length-k):=by
  have e:HT.sIx xs.length xs.length (some (-(k:Int)))=xs.length-k:=by
    show(if (-(k:Int))<0 then((-(k:Int))+(xs.length:Int)).toNat else min (-(k:Int)).toNat xs.length)=_
    rw[if_pos (by omega)];omega
  unfold cutV;rw[HT.sIx_none,e];simp
theorem zky{ws:List Str}{w:Str}(h:w∈ws):inV (V.str w) (ws.map V.str)=true:=by
  unfold inV;rw[List.any_eq_true];exact⟨V.str w,Zp.mpr ⟨w,h,rfl⟩,decide_eq_true rfl⟩
theorem zil(zs:List Str):(zs.map V.str).all xk=true:=by
  rw[ZS];intro x hx;obtain⟨z,_,rfl⟩:=Zp.mp hx;rfl
def zhi:Sp:=fun vs H Q _=>∃(p o h l:Addr) (hs:List Addr) (outs:List Str) (ds:List HD) (z:Str),vs=[.ref p,.ref l]/\HHouse H p o h hs outs ds/\H l=some (.lst [.str (Str.ofString "deal"),.str z])/\z∈outs/\Q (.str z) H
theorem zf1(y p q:Str)(ps:List Str):Str.join y (p::q::ps)=p++y++Str.join y (q::ps):=rfl
def yy(z:Str):Str:=Str.join (Str.ofString " ") [Str.ofString "deal", z]
theorem zi5(z:Str):Str.ofString "deal " ++ z=yy z:=by
  rw[yy,zf1];have:Str.ofString "deal" ++ Str.ofString " " = Str.ofString "deal " := by decide +kernel
  rw[this];rfl
theorem zg4 {c:Nat} (h:c∈(Str.ofString "deal").cps.toList):97<=c/\c<=122:=by
  have:∀d∈(Str.ofString "deal").cps.toList,97<=d/\d<=122:=by decide +kernel
  exact this c h
theorem zas {z:Str} (hz:GoodN z) {p:Str} (hp:p∈[Str.ofString "deal", z]) {c:Nat} (hc:c∈p.cps.toList):97<=c/\c<=122:=by
  simp only[ZK,Zx,or_false]at hp
  rcases hp with rfl | rfl
  . exact zg4 hc
  . exact hz.2.2 c hc
theorem zga{z:Str}(hz:GoodN z):Txt.split (yy z) (Str.ofString " ")=[Str.ofString "deal", z] :=
  qm (c:=32) (r:=[]) (by decide +kernel) (by decide +kernel) (by simp) fun p hp hc=>by have:=zas hz hp hc;omega
theorem zee{z:Str}(hz:GoodN z):Txt.split (yy z) (Str.ofString "; ")=[yy z] :=
  qm (ps:=[yy z]) (c:=59) (r:=[32]) (by decide +kernel) (by decide +kernel) (by simp) fun p hp hc=>by
    rw[ZC.mp hp]at hc
    rcases sr hc with y | ⟨p,hp,y⟩
    . rw[uk]at y
      simp at y
    . have:=zas hz hp y
      omega
theorem zb8{z:Str}(hz:GoodN z):(yy z).length<=14:=by
  have h1:=StrLaws.join_length_le (Str.ofString " ") [Str.ofString "deal", z];have e1:(Str.ofString " ").length=1:=by decide +kernel
  have e2:(Str.ofString "deal").length=4:=by decide +kernel
  have h3:=hz.2.1;simp only[ZM,Yi,List.sum_cons,List.sum_nil,ZL,Yw,e1,e2]at h1
  show(Str.join (Str.ofString " ") [Str.ofString "deal", z]).length<=14
  omega
def ze9:Sp:=fun vs H Q _=>∃z:Str,vs=[.str (yy z)]/\GoodN z/\∀H' l b,Same H H'->H' l=some (.lst [.ref b])->H' b=some (.lst [.str (Str.ofString "deal"),.str z])->Q (.ref l) H'
def spNo:Sp:=fun _ _ _ _=>False
def zel:Sp:=fun vs H Q _=>∃(p o h:Addr) (hs:List Addr) (outs:List Str) (ds:List HD) (z:Str),vs=[.ref p,.str (yy z)]/\HHouse H p o h hs outs ds/\GoodHouse outs ds/\z∈outs/\∀H' l b,Same H H'->H' l=some (.lst [.ref b])->H' b=some (.tup [.non,.str z])->Q (.ref l) H'
def zdc:Sp:=fun vs H Q _=>∃v:V,vs=[.non,v]/\Q (.bl true) H
def zcw:Sp:=fun vs H Q _=>∃(l b:Addr) (v:V) (z:Str),vs=[.ref l,v]/\H l=some (.lst [.ref b])/\H b=some (.tup [.non,.str z])/\∀H',Same H H'->Q (.str z) H'
def zho:Sp:=fun vs H Q _=>∃(p o h l b:Addr) (hs:List Addr) (outs:List Str) (ds:List HD) (z:Str),vs=[.ref p,.ref l]/\HHouse H p o h hs outs ds/\GoodHouse outs ds/\H l=some (.lst [.ref b])/\H b=some (.tup [.non,.str z])/\∀H' t,Same H H'->H' t=some (.dT (xr (fun _=>z) (yl (ds.map HD.words))))->Q (.ref t) H'
def zal:Sp:=fun vs H Q _=>∃(p o h:Addr) (hs:List Addr) (outs:List Str) (ds:List HD) (z:Str),vs=[.ref p,.str (yy z)]/\HHouse H p o h hs outs ds/\GoodHouse outs ds/\z∈outs/\∀H' t,Same H H'->H' t=some (.dT (xr (fun _=>z) (yl (ds.map HD.words))))->Q (.ref t) H'
theorem ar{x y:V}{i:Nat}(h:[x][i]? = some y):i=0/\y=x:=by
  cases i with
  | zero=>exact⟨rfl,(Option.some.inj h).symm⟩
  | succ i=>cases h
structure Pv1(H:Hp)(P1:V->Hp->Prop)(i:Nat)(ys:List V)(H':Hp):Prop where
  S:Same H H'
  z:i=0->ys=[]
  o:i=1->∃y,ys=[y]/\P1 y H'
  le:i<=1
theorem Pv1.nil(H:Hp)(P1:V->Hp->Prop):Pv1 H P1 0 [] H:=⟨Same.refl _,fun _=>rfl,(fun e=>by cases e),by decide⟩
theorem Pv1.done{H H':Hp}{P1:V->Hp->Prop}{y:V}(S:Same H H')(h:P1 y H'):Pv1 H P1 (0+1) ([]++[y]) H':=⟨S,(fun e=>by cases e),(fun _=>⟨y,rfl,h⟩),by decide⟩
theorem Pv1.len{H H':Hp}{P1:V->Hp->Prop}{i:Nat}{ys:List V}(h:Pv1 H P1 i ys H'):ys.length<=sizeLine:=by
  have:i=0\/i=1:=by have:=h.le;omega
  rcases this with e | e
  . rw[h.z e];decide
  . obtain⟨y,rfl,_⟩:=h.o e
    exact show 1<=sizeLine by decide
section
variable{P:Program}{w:World}{K:Fg}{mg:Str->Option Value}{base:Heap}{a:Ad}
theorem kt (B:Bt mg) (C:Ct K mg a) (f_outcomes_of:FnAt P w K mg base "outcomes_of" 1 ["house"] (uq K 0)) (D:zc K mg "read_deal" oa ["house", "words"]):FnAtX P w K mg base "read_deal" 2 ["house", "words"] zhi:=by
  refine FnAtX.of D zc6 (fun vs H Q E h => ?_) (fun f cdv A outer s H vs Q E hr h => ?_)
  . obtain⟨p,o,h,l,hs,outs,ds,z,rfl,_⟩:=h
    rfl
  . obtain⟨p,o,h,l,hs,outs,ds,z,rfl,hH,hl,hz,q⟩:=h
    refine⟨_,(@ze _ _ _ _ _ (@yh _ _ _ _ _ _ _ _ (PW.pt (@ui _ _ _ _ _ _ _ (@yb _ _ _ _ _ _ _ _ ve (zx yf rfl B.len xi (za (pv 1) (@zb _))) (@zi _ _ _ _) (yd _)) (@ui _ _ _ _ _ _ _ (@yb _ _ _ _ _ _ _ _ ve (@z0 _ _ _ _ _ _ _ ya (pv 1) (@zi _ _ _ _) (fun _ _=>rfl)) (@zm _ _ _ _) (yd _)) (@vq _ _ _ _ (@yb _ _ _ _ _ _ _ _ zc2 (@z0 _ _ _ _ _ _ _ ya (pv 1) (@zi _ _ _ _) (fun _ _=>rfl)) (zj f_outcomes_of (hr.mono (by decide)) rfl (za (pv 0) (@zb _))) (by with_unfolding_all rfl)))))) (@zd _ _ _ (wa rfl C.q_NoRule.toErr rfl C.m_NoRule (y0 rfl) (za (@zm _ _ _ _) (@zb _)))) (@z7 _)) (@zd _ _ _ (PS.nox (@zp _ _ _ _ (@z0 _ _ _ _ _ _ _ ya (pv 1) (@zi _ _ _ _) (fun _ _=>rfl)))))),?_⟩;rw[show start ["house", "words"] [V.ref p,V.ref l]=[some (V.ref p),some (V.ref l)] from rfl];simp only[zg,zh,↓reduceIte];refine⟨_,.inl (.of hl),rfl,ite2 (fun z=>absurd z (by simp)) (fun _=>⟨_,.of hl,_,zy (j:=0) rfl,rfl,ite2 (fun z=>absurd z (by simp)) (fun _=>⟨_,.of hl,_,zy (j:=1) rfl,p,_,_,rfl,.of hH.tup,rfl,o,rfl,_,.inr (.of hH.outs),rfl,zil _,?_⟩)⟩)⟩;rw[zky hz];exact iteF ⟨_,.of hl,_,zy (j:=1) rfl,q⟩
theorem ax (D:zc K mg "read_clause" tz ["house", "words"]):FnAtX P w K mg base "read_clause" 45 ["house", "words"] spNo :=
  FnAtX.of D zag (fun _ _ _ _ h=>h.elim) (fun _ _ _ _ _ _ _ _ _ _ h=>h.elim)
theorem zbp (B:Bt mg) (C:Ct K mg a) (D:zc K mg "clauses_in" rc ["text"]):FnAtX P w K mg base "clauses_in" 1 ["text"] ze9:=by
  refine FnAtX.of D sc_clauses_in (fun vs H Q E h => ?_) (fun f cdv A outer s H vs Q E hr h => ?_)
  . obtain⟨z,rfl,_⟩:=h
    rfl
  . obtain⟨z,rfl,hz,q⟩:=h
    refine⟨_,(@ze _ _ _ _ _ (PS.nox (aj (i:=1) ["clause"] ["text", "clauses"] sc_clauses_in.nd rfl rfl rfl (@ye _ _ _ _ (y8 PySem.F.plainAttrs_str PySem.F.slot_str_split PySem.F.type_str_split vd (pv 0) (za (@zm _ _ _ _) (@zb _)))) (fun _=>(zw (i:=0) (show(["clause", "text", "clauses"]:List Str).Nodup by decide +kernel) rfl (Or.inl rfl))) (fun _=>(@yi _)) (fun _=>(y8 PySem.F.plainAttrs_str PySem.F.slot_str_split PySem.F.type_str_split vd (pv 0) (za (@zm _ _ _ _) (@zb _)))) rfl (by decide +kernel) rfl rfl rfl)) (@ze _ _ _ _ _ (@yh _ _ _ _ _ _ _ _ (PW.pt (@ui _ _ _ _ _ _ _ (@yb _ _ _ _ _ _ _ _ zf9 (zx yf rfl B.len xi (za (pv 1) (@zb _))) (uc rfl B.k_MOST_CLAUSES) (yd _)) (@vq _ _ _ _ (@yb _ _ _ _ _ _ _ _ zf9 (zx (zax rfl) rfl B.max zia (za (yj ["words"] ["text", "clauses"] rfl (@ye _ _ _ _ (pv 1)) (fun _=>(zw (i:=0) (show(["words", "text", "clauses"]:List Str).Nodup by decide +kernel) rfl (Or.inl rfl))) (fun _=>(@yi _)) (fun _=>(zx yf rfl B.len xi (za (pv 0) (@zb _)))) rfl (by decide +kernel) rfl rfl) (@zb _))) (uc rfl B.k_MOST_CLAUSE_WORDS) (yd _))))) (@zd _ _ _ (wa rfl C.q_NoRule.toErr rfl C.m_NoRule (y0 rfl) (za (@zm _ _ _ _) (@zb _)))) (@z7 _)) (@zd _ _ _ (PS.nox (@zp _ _ _ _ (pv 1)))))),?_⟩;rw[show start ["text", "clauses"] [V.str (yy z)]=[some (V.str (yy z)),none] from rfl];simp only[zg,zh,↓reduceIte];have hl13:(yy z).length<=sizeLine:=Zd (zb8 hz) (by decide);rw[zee hz];refine⟨rfl,by decide +kernel,hl13,show 1<=sizeLine by decide,fun l hl => ?_⟩;rw[show [yy z].map V.str=[V.str (yy z)] from rfl];obtain⟨S1,u1⟩:=lay hl (.lst [V.str (yy z)]);generalize upd H l (.lst [V.str (yy z)])=H1 at *;refine⟨⟨_,.of u1⟩,fun d => ?_⟩;refine ym (xs:=[V.str (yy z)]) (Pv1 H1 fun y H'=>∃b,y=.ref b/\H' b=some (.lst [.str (Str.ofString "deal"),.str z])) (Pv1.nil _ _) ?_ ?_ ?_
    . rintro i ys H2 hi h
      exact⟨h.len,.of (h.S _ _ u1)⟩
    . rintro i x ys H2 hx ⟨S2,h0,_,_⟩
      obtain⟨rfl,rfl⟩:=ar hx;rw[h0 rfl];simp only[zg,zh,↓reduceIte];rw[zga hz];refine⟨rfl,by decide +kernel,hl13,show 2<=sizeLine by decide,fun b hb=>Pv1.done (S2.trans (Same.upd (Same.refl _) hb)) ⟨b,rfl,zn⟩⟩
    . rintro ys H2 ⟨S2,_,h1,_⟩ l2 hl2
      obtain⟨y,rfl,b,rfl,hb⟩:=h1 rfl;obtain⟨S3,u3⟩:=lay hl2 (.lst [V.ref b]);generalize upd H2 l2 (.lst [V.ref b])=H3 at *;have hb3:=S3 _ _ hb;refine⟨_,.inl (.of u3),ite2 (fun y=>absurd (show decide ((20:Int)<1)=true from y) (by decide)) fun _=>⟨⟨_,.of u3⟩,fun d2 => ?_⟩⟩;refine ym (xs:=[V.ref b]) (Pv1 H3 fun y _=>y=.int 2) (Pv1.nil _ _) ?_ ?_ ?_
      . rintro i ys H4 hi h
        exact⟨h.len,.of (h.S _ _ u3)⟩
      . rintro i x ys H4 hx ⟨S4,h0,_,_⟩
        obtain⟨rfl,rfl⟩:=ar hx;rw[h0 rfl];simp only[zg,zh,↓reduceIte];exact⟨_,.inl (.of (S4 _ _ hb3)),Pv1.done S4 rfl⟩
      . rintro ys H4 ⟨S4,_,h1,_⟩ l3 hl3
        obtain⟨y,rfl,rfl⟩:=h1 rfl;have S5:Same H4 (upd H4 l3 (.lst [V.int 2])):=Same.upd (Same.refl _) hl3;refine⟨[2],.of zn,by decide,fun m hm _ => ?_⟩;rw[ZC.mp hm];exact ite2 (fun y=>absurd y (by decide)) fun _=>q _ l2 b (S1.trans (S2.trans (S3.trans (S4.trans S5)))) ((S4.trans S5) _ _ u3) ((S4.trans S5) _ _ hb3)
theorem zdo (B:Bt mg) (C:Ct K mg a) (f_clauses_in:FnAtX P w K mg base "clauses_in" 1 ["text"] ze9) (f_read_clause:FnAtX P w K mg base "read_clause" 45 ["house", "words"] spNo) (kt:FnAtX P w K mg base "read_deal" 2 ["house", "words"] zhi) (D:zc K mg "read_rule" pj ["house", "text"]):FnAtX P w K mg base "read_rule" 46 ["house", "text"] zel:=by
  refine FnAtX.of D sc_read_rule (fun vs H Q E h => ?_) (fun f cdv A outer s H vs Q E hr h => ?_)
  . obtain⟨p,o,h,hs,outs,ds,z,rfl,_⟩:=h
    rfl
  . obtain⟨p,o,h,hs,outs,ds,z,rfl,hH,G,hz,q⟩:=h
    refine⟨_,(@ze _ _ _ _ _ (@yh _ _ _ _ _ _ _ _ (@yv _ _ _ _ (yx (zx xv rfl B.isinstance yk (za (pv 1) (za (t9 rfl B.str mv) (@zb _)))))) (@zd _ _ _ (wa rfl C.q_NoRule.toErr rfl C.m_NoRule (y0 rfl) (za (@zm _ _ _ _) (@zb _)))) (@z7 _)) (@ze _ _ _ _ _ (zz (i:=2) sc_read_rule.nd rfl (Or.inl rfl) (vc f_clauses_in (hr.mono (by decide)) (xx rfl) rfl (za (pv 1) (@zb _)))) (@ze _ _ _ _ _ (zkg (i:=3) rfl ["words"] ["house", "text", "clauses", "rule"] sc_read_rule.nd rfl rfl rfl (@ye _ _ _ _ (@lc _ _ _ _ _ _ _ _ _ _ fj (pv 2) (@jd _) (@mj _ _ _ (@cp _ _ _ _ _ _ gk (@zi _ _ _ _))))) (fun _=>(zw (i:=0) (show(["words", "house", "text", "clauses", "rule"]:List Str).Nodup by decide +kernel) rfl (Or.inl rfl))) (fun _=>(@yi _)) (fun _ _=>(vc f_read_clause (hr.mono (by decide)) iq rfl (za (pv 1) (za (pv 0) (@zb _))))) rfl (by decide +kernel) rfl rfl rfl) (@zd _ _ _ (@zp _ _ _ _ (@zt _ _ _ _ _ _ _ _ zcp (pv 3) (@we _ _ _ _ (@za _ _ _ _ _ (@xn _ _ _ _ _ (@za _ _ _ _ _ (@ql _ _ _) (@za _ _ _ _ _ (vc kt (hr.mono (by decide)) (xx rfl) rfl (@za _ _ _ _ _ (pv 0) (@za _ _ _ _ _ (@z0 _ _ _ _ _ _ _ ya (pv 2) (@cp _ _ _ _ _ _ gk (@zi _ _ _ _)) (fun _ _=>rfl)) (@zb _) (zk nofun)) (zk nofun))) (@zb _) (zk nofun)) (zk nofun))) (@zb _) (zk nofun))))))))),?_⟩;rw[show start ["house", "text", "clauses", "rule"] [V.ref p,V.str (yy z)]=[some (V.ref p),some (V.str (yy z)),none,none] from rfl];simp only[zg,zh,↓reduceIte];refine⟨_,.str _,true,aw,iteF ⟨z,rfl,G.outsG _ hz,fun H1 l b S1 hl hb => ?_⟩⟩;refine⟨l,rfl,_,.of hl,fun p1 hp1 => ?_⟩;rw[show cutV [V.ref b] none (some (-1))=[] from zjp (xs:=[V.ref b]) (k:=1) (by decide) (Zm 1)];obtain⟨S2,u2⟩:=lay hp1 (.lst []);generalize upd H1 p1 (.lst [])=H2 at *;refine⟨⟨_,.of u2⟩,fun d => ?_⟩;refine ym (xs:=[]) (fun _ ys H'=>Same H2 H'/\ys=[]) ⟨Same.refl _,rfl⟩ ?_ ?_ ?_
    . rintro i ys H3 hi ⟨S3,rfl⟩
      exact⟨by decide,.of (S3 _ _ u2)⟩
    . intro i x ys H3 hx
      cases hx
    . rintro ys H3 ⟨S3,rfl⟩ ru hru
      obtain⟨S4,u4⟩:=lay hru (.lst []);generalize upd H3 ru (.lst [])=H4 at *;have S14:=S2.trans (S3.trans S4);simp only[zg,zh,↓reduceIte];refine⟨_,.of (S14 _ _ hl),V.ref b,zem (k:=1) (by decide) (Zm 1) rfl,p,o,h,b,hs,outs,ds,z,rfl,hH.mono (S1.trans S14),S14 _ _ hb,hz,by decide,fun t ht => ?_⟩;obtain⟨S5,u5⟩:=lay ht (.tup [V.non,V.str z]);generalize upd H4 t (.tup [V.non,V.str z])=H5 at *;refine⟨by decide,fun m hm => ?_⟩;obtain⟨S6,u6⟩:=lay hm (.lst [V.ref t]);generalize upd H5 m (.lst [V.ref t])=H6 at *;refine⟨_,(S5.trans S6) _ _ u4,_,u6,show 0+1<=sizeLine by decide,fun n hn => ?_⟩;have S7:Same H6 (upd H6 n (.lst ([]++[V.ref t]))):=Same.upd (Same.refl _) hn;exact q _ n t (S1.trans (S14.trans (S5.trans (S6.trans S7)))) zn (S7 _ _ (S6 _ _ u5))
theorem zig (D:zc K mg "holds" jb ["condition", "row"]):FnAt P w K mg base "holds" 1 ["condition", "row"] spNo :=
  FnAt.of D sc_holds (fun _ _ _ _ h=>h.elim) (fun _ _ _ _ _ _ _ _ _ _ h=>h.elim)
theorem zj7 (f_holds:FnAt P w K mg base "holds" 1 ["condition", "row"] spNo) (D:zc K mg "holds" jb ["condition", "row"]):FnAt P w K mg base "holds" 2 ["condition", "row"] zdc:=by
  refine FnAt.of D sc_holds (fun vs H Q E h => ?_) (fun f cdv A outer s H vs Q E hr h => ?_)
  . obtain⟨v,rfl,_⟩:=h
    rfl
  . obtain⟨v,rfl,q⟩:=h
    refine⟨_,(@ze _ _ _ _ _ (@yh _ _ _ _ _ _ _ _ (@yb _ _ _ _ _ _ _ _ zcv (pv 0) (@ql _ _ _) (yd _)) (@zd _ _ _ (@zp _ _ _ _ (@yz _ _ _ _))) (@z7 _)) (@ze _ _ _ _ _ (zz (i:=2) sc_holds.nd rfl (Or.inl rfl) (@z0 _ _ _ _ _ _ _ ya (pv 0) (@zi _ _ _ _) (fun _ _=>rfl))) (@ze _ _ _ _ _ (@yh _ _ _ _ _ _ _ _ (@yb _ _ _ _ _ _ _ _ ua (pv 2) (@zm _ _ _ _) (yd _)) (@zd _ _ _ (@zp _ _ _ _ (@um _ _ _ _ _ _ _ _ ua (@z0 _ _ _ _ _ _ _ ya (pv 1) (@z0 _ _ _ _ _ _ _ ya (pv 0) (@zi _ _ _ _) (fun _ _=>rfl)) (fun _ _=>rfl)) (@z0 _ _ _ _ _ _ _ ya (pv 0) (@zi _ _ _ _) (fun _ _=>rfl)) (yd _)))) (@z7 _)) (@ze _ _ _ _ _ (@yh _ _ _ _ _ _ _ _ (@yb _ _ _ _ _ _ _ _ ua (pv 2) (@zm _ _ _ _) (yd _)) (@zd _ _ _ (@zp _ _ _ _ (@um _ _ _ _ _ _ _ _ op_ge (zhb PySem.F.plainAttrs_tuple PySem.F.slot_tuple_count PySem.F.type_tuple_count zib (pv 1) (za (@z0 _ _ _ _ _ _ _ ya (pv 0) (@zi _ _ _ _) (fun _ _=>rfl)) (@zb _))) (@z0 _ _ _ _ _ _ _ ya (pv 0) (@zi _ _ _ _) (fun _ _=>rfl)) (yd _)))) (@z7 _)) (@ze _ _ _ _ _ (@yh _ _ _ _ _ _ _ _ (@yb _ _ _ _ _ _ _ _ ua (pv 2) (@zm _ _ _ _) (yd _)) (@zd _ _ _ (@zp _ _ _ _ (@zhr _ _ _ _ (zj f_holds (hr.mono (by decide)) rfl (za (@z0 _ _ _ _ _ _ _ ya (pv 0) (@zi _ _ _ _) (fun _ _=>rfl)) (za (pv 1) (@zb _))))))) (@z7 _)) (@ze _ _ _ _ _ (@yh _ _ _ _ _ _ _ _ (@yb _ _ _ _ _ _ _ _ ua (pv 2) (@zm _ _ _ _) (yd _)) (@zd _ _ _ (@zp _ _ _ _ (@uy _ _ _ _ _ _ _ (zj f_holds (hr.mono (by decide)) rfl (za (@z0 _ _ _ _ _ _ _ ya (pv 0) (@zi _ _ _ _) (fun _ _=>rfl)) (za (pv 1) (@zb _)))) (@u9 _ _ _ _ _ (zj f_holds (hr.mono (by decide)) rfl (za (@z0 _ _ _ _ _ _ _ ya (pv 0) (@zi _ _ _ _) (fun _ _=>rfl)) (za (pv 1) (@zb _)))))))) (@z7 _)) (@zd _ _ _ (@zp _ _ _ _ (@pe_or _ _ _ _ _ _ _ (zj f_holds (hr.mono (by decide)) rfl (za (@z0 _ _ _ _ _ _ _ ya (pv 0) (@zi _ _ _ _) (fun _ _=>rfl)) (za (pv 1) (@zb _)))) (@u9 _ _ _ _ _ (zj f_holds (hr.mono (by decide)) rfl (za (@z0 _ _ _ _ _ _ _ ya (pv 0) (@zi _ _ _ _) (fun _ _=>rfl)) (za (pv 1) (@zb _)))))))))))))),?_⟩;rw[show start ["condition", "row", "kind"] [V.non,v]=[some V.non,some v,none] from rfl];refine zge fun T U hT hU => ?_
    simp only[zg,zh,↓reduceIte];refine ite2 (fun _ => ?_) fun h=>absurd (by decide) h
    rw[hT];simp only[zg,zh,↓reduceIte];exact q
theorem zka (f_holds:FnAt P w K mg base "holds" 2 ["condition", "row"] zdc) (D:zc K mg "dealt" fh ["rule", "row"]):FnAt P w K mg base "dealt" 3 ["rule", "row"] zcw:=by
  refine FnAt.of D zkh (fun vs H Q E h => ?_) (fun f cdv A outer s H vs Q E hr h => ?_)
  . obtain⟨l,b,v,z,rfl,_⟩:=h
    rfl
  . obtain⟨l,b,v,z,rfl,hl,hb,q⟩:=h
    refine⟨_,(@zd _ _ _ (@zp _ _ _ _ (@z0 _ _ _ _ _ _ _ ya (yj ["condition", "outcome"] ["rule", "row"] rfl (@ye _ _ _ _ (pv 0)) (fun _=>(zcs rfl (si (zw (i:=0) (show(["condition", "outcome", "rule", "row"]:List Str).Nodup by decide +kernel) rfl (Or.inl rfl)) (si (zw (i:=1) (show(["condition", "outcome", "rule", "row"]:List Str).Nodup by decide +kernel) rfl (Or.inl rfl)) (@au _))))) (fun _=>(@zku _ _ _ (yx (zj f_holds (hr.mono (by decide)) rfl (za (pv 0) (za (pv 3) (@zb _))))))) (fun _=>(pv 1)) rfl (by decide +kernel) rfl rfl) (@zi _ _ _ _) (fun _ _=>rfl)))),?_⟩;rw[show start ["rule", "row"] [V.ref l,v]=[some (V.ref l),some v] from rfl];simp only[zg,zh,↓reduceIte];refine⟨⟨_,.of hl⟩,fun d => ?_⟩;refine ym (xs:=[V.ref b]) (Pv1 H fun y _=>y=.str z) (Pv1.nil _ _) ?_ ?_ ?_
    . rintro i ys H2 hi h
      exact⟨h.len,.of (h.S _ _ hl)⟩
    . rintro i x ys H2 hx ⟨S2,h0,_,_⟩
      obtain⟨rfl,rfl⟩:=ar hx;rw[h0 rfl];simp only[zg,zh,↓reduceIte];exact⟨_,.of (S2 _ _ hb),rfl,_,_,rfl,_,_,rfl,rfl,v,rfl,true,rfl,iteT (Pv1.done S2 rfl)⟩
    . rintro ys H2 ⟨S2,_,h1,_⟩ l2 hl2
      obtain⟨y,rfl,rfl⟩:=h1 rfl;exact⟨_,.of zn,_,zy (j:=0) rfl,q _ (S2.trans (Same.upd (Same.refl _) hl2))⟩
theorem zd2 (B:Bt mg) (oi:FnAt P w K mg base "rows_of" 3 ["house"] (de K)) (f_dealt:FnAt P w K mg base "dealt" 3 ["rule", "row"] zcw) (D:zc K mg "table_of" na ["house", "rule"]):FnAt P w K mg base "table_of" 44 ["house", "rule"] zho:=by
  refine FnAt.of D zdx (fun vs H Q E h => ?_) (fun f cdv A outer s H vs Q E hr h => ?_)
  . obtain⟨p,o,h,l,b,hs,outs,ds,z,rfl,_⟩:=h
    rfl
  . obtain⟨p,o,h,l,b,hs,outs,ds,z,rfl,hH,G,hl,hb,q⟩:=h
    refine⟨_,(@zd _ _ _ (@zp _ _ _ _ (y4 (af rfl (hu11 hr)) rfl B.dict zer (za (yj ["row"] ["house", "rule"] rfl (@ye _ _ _ _ (zj oi (hr.mono (by decide)) rfl (za (pv 0) (@zb _)))) (fun _=>(zw (i:=0) (show(["row", "house", "rule"]:List Str).Nodup by decide +kernel) rfl (Or.inl rfl))) (fun _=>(@yi _)) (fun _=>(@xn _ _ _ _ _ (za (pv 0) (za (zj f_dealt (hr.mono (by decide)) rfl (za (pv 2) (za (pv 0) (@zb _)))) (@zb _))))) rfl (by decide +kernel) rfl rfl) (@zb _))))),?_⟩;rw[show start ["house", "rule"] [V.ref p,V.ref l]=[some (V.ref p),some (V.ref l)] from rfl];simp only[zg,zh,↓reduceIte];have h4:=G.hands.2;have h8:∀d∈ds,d.words.length<=8:=fun d hd=>(G.words1 d hd).2
    refine⟨p,o,h,hs,outs,ds,rfl,hH.k,h4,h8,fun H1 rw as S1 _ R1=>⟨rw,rfl,⟨_,.of R1.lst⟩,fun dd => ?_⟩⟩
    have few:=ju (wss:=ds.map HD.words) (by rw[Za];exact h4) (fun ws hws=>by
      obtain⟨d,hd,rfl⟩:=Zp.mp hws
      exact h8 d hd) _ (Zm _)
    rw[Zt]at few
    have nd:(yl (ds.map HD.words)).Nodup:=f8 fun vs hvs=>by
      obtain⟨d,hd,rfl⟩:=Zp.mp hvs;exact(G.hand hd).wordsD
    generalize yl (ds.map HD.words)=rs at *;refine ym (xs:=as.map V.ref) (PvBT H1 (fun _=>z) rs) ⟨Same.refl _,[],rfl,rfl,fun i T kv e=>by simp at e⟩ ?_ ?_ ?_
    . rintro i ys H2 hi ⟨S2,Ts,rfl,hP⟩
      refine⟨?_,.of (S2 _ _ R1.lst)⟩;rw[Za,hP.len,xr,Za,Zj];exact Zd (ZB _ _) (Zd few (by decide))
    . rintro i x ys H2 hx ⟨S2,Ts,rfl,hP⟩
      obtain⟨c,hcx,rfl⟩:=yu hx;have hi:i<rs.length:=by have:=(Zc.mp hcx).1;have:=R1.tups.len;omega
      have er:rs[i]? = some rs[i]:=Zb hi;have hrow:=S2 _ _ (R1.tups.at' i c _ hcx er);have S12:=S1.trans S2;simp only[zg,zh,↓reduceIte];refine⟨l,b,_,z,rfl,S12 _ _ hl,S12 _ _ hb,fun H3 S3=>⟨by decide,fun T hT => ?_⟩⟩;have S4:Same H3 (upd H3 T (.tup [V.ref c,V.str (z)])):=Same.upd (Same.refl _) hT;refine⟨S2.trans (S3.trans S4),Ts++[T],by simp,?_⟩;rw[Zq,er]
      show uz _ _ (xr _ (rs.take i++[rs[i]]))
      rw[xr,Zn];exact fu (pq (S3.trans S4) hP) (b:=c) zn (by rw[zau];exact(S3.trans S4) _ _ hrow)
    . rintro ys H2 ⟨S2,Ts,rfl,hP⟩ l2 hl2
      rw[Za,R1.tups.len,Zt]at hP;have S3:Same H2 (upd H2 l2 (.lst (Ts.map V.ref))):=Same.upd (Same.refl _) hl2;refine⟨Ts,zn,_,pq S3 hP,fun t ht => ?_⟩;rw[zaq (zay nd)];exact q _ t (S1.trans (S2.trans (S3.trans (Same.upd (Same.refl _) ht)))) zn
theorem zby (f_read_rule:FnAtX P w K mg base "read_rule" 46 ["house", "text"] zel) (f_table_of:FnAt P w K mg base "table_of" 44 ["house", "rule"] zho) (D:zc K mg "rule_table" rn ["house", "rest"]):FnAtX P w K mg base "rule_table" 47 ["house", "rest"] zal:=by
  refine FnAtX.of D zbv (fun vs H Q E h => ?_) (fun f cdv A outer s H vs Q E hr h => ?_)
  . obtain⟨p,o,h,hs,outs,ds,z,rfl,_⟩:=h
    rfl
  . obtain⟨p,o,h,hs,outs,ds,z,rfl,hH,G,hz,q⟩:=h
    refine⟨_,(@zd _ _ _ (@zp _ _ _ _ (zj f_table_of (hr.mono (by decide)) rfl (za (pv 0) (za (vc f_read_rule (hr.mono (by decide)) (xx rfl) rfl (za (pv 0) (za (pv 1) (@zb _)))) (@zb _)))))),?_⟩;rw[show start ["house", "rest"] [V.ref p,V.str (yy z)]=[some (V.ref p),some (V.str (yy z))] from rfl];simp only[zg,zh,↓reduceIte];exact⟨p,o,h,hs,outs,ds,z,rfl,hH,G,hz,fun H1 l b S1 hl hb=>⟨p,o,h,l,b,hs,outs,ds,z,rfl,hH.mono S1,G,hl,hb,fun H2 t S2 ht=>q H2 t (S1.trans S2) ht⟩⟩
end
def x6(ws hc:List Int):Str:=Str.join (Str.ofString " / ") [Str.join (Str.ofString " ") (ws.map intS),Str.join (Str.ofString " ") (hc.map intS)]
structure NumsOk(ns:List Int):Prop where
  len:1<=ns.length/\ns.length<=8
  good:∀n∈ns,-(10^60)<n/\n<10^60
theorem vn{y:Str}{ps:List Str}{B n:Nat}(hB:∀p∈ps,p.length<=B)(hn:ps.length<=n)(hy:y.length<=3)(h:n*(B+3)<=100000):JoinOk y ps=true/\(Str.join y ps).length<=n*(B+3):=by
  have h3:ps.length*(B+3)<=n*(B+3):=Nat.mul_le_mul_right _ hn;have h4:ps.length*y.length<=ps.length*3:=Nat.mul_le_mul_left _ hy;rw[Nat.mul_add]at h3
  constructor
  . unfold JoinOk
    rw[StrLaws.joinFits (B:=B) hB (by omega)];rfl
  . have h1:=StrLaws.join_length_le y ps
    have h2:=StrLaws.sumLen_le ps hB;omega
theorem NumsOk.join{ns:List Int}(h:NumsOk ns):JoinOk (Str.ofString " ") (ns.map intS)=true/\(Str.join (Str.ofString " ") (ns.map intS)).length<=520 :=
  vn (B:=62) (n:=8) (fun p hp=>by
    obtain⟨n,hn,rfl⟩:=Zp.mp hp;have:=h.good n hn
    exact j1 (by omega) (by omega)) (by rw[Za];exact h.len.2) (by decide +kernel) (by decide)
theorem NumsOk.split{ns:List Int}(h:NumsOk ns):Txt.split (Str.join (Str.ofString " ") (ns.map intS)) (Str.ofString " ")=ns.map intS :=
  qm uk (by decide +kernel) (fun e=>by have h1:=h.len.1;rw[List.map_eq_nil_iff.mp e]at h1;exact absurd h1 (by decide)) fun p hp hc=>by
    obtain⟨n,hn,rfl⟩:=Zp.mp hp;have:=gg hc;omega
theorem zfz{ws hc:List Int}(hw:NumsOk ws)(hh:NumsOk hc):Txt.split (x6 ws hc) (Str.ofString " / ")=[Str.join (Str.ofString " ") (ws.map intS),Str.join (Str.ofString " ") (hc.map intS)] :=
  k7 zdb (by decide) (by decide +kernel) (by simp) fun p hp hc=>by
    have:∃ns:List Int,p=Str.join (Str.ofString " ") (ns.map intS):=by
      simp only[ZK,Zx,or_false]at hp
      rcases hp with rfl | rfl
      . exact⟨_,rfl⟩
      . exact⟨_,rfl⟩
    obtain⟨ns,rfl⟩:=this
    rcases sr hc with y | ⟨p,hp,y⟩
    . rw[uk]at y
      simp at y
    . obtain⟨n,hn,rfl⟩:=Zp.mp hp
      have:=gg y;omega
theorem df{ws hc:List Int}(hw:NumsOk ws)(hh:NumsOk hc):(x6 ws hc).length<=1046 :=
  (vn (ps:=[Str.join (Str.ofString " ") (ws.map intS),Str.join (Str.ofString " ") (hc.map intS)]) (B:=520) (n:=2) (fun p hp=>by
    simp only[ZK,Zx,or_false]at hp
    rcases hp with rfl | rfl
    . exact hw.join.2
    . exact hh.join.2) (Zm 2) (by decide +kernel) (by decide)).2
def ze7:Sp:=fun vs H Q _=>∃ws hc:List Int,vs=[.str (x6 ws hc)]/\NumsOk ws/\NumsOk hc/\∀H' t l m,Same H H'->H' t=some (.tup [.ref l,.ref m])->H' l=some (.lst (ws.map V.int))->H' m=some (.lst (hc.map V.int))->Q (.ref t) H'
def g8:Sp:=fun vs H Q _=>∃(p o h:Addr) (hs:List Addr) (outs:List Str) (ds:List HD) (ws hc:List Int),vs=[.ref p,.str (x6 ws hc)]/\HHouse H p o h hs outs ds/\GoodHouse outs ds/\NumsOk ws/\NumsOk hc/\ws.length=ds.length/\(∀i∈ws,1<=i)/\hc.length=outs.length/\∀H' t,Same H H'->H' t=some (.dT (xr (u0 outs ds ws hc) (yl (ds.map HD.words))))->Q (.ref t) H'
section
variable{P:Program}{w:World}{K:Fg}{mg:Str->Option Value}{base:Heap}{a:Ad}
theorem qz (B:Bt mg) (C:Ct K mg a) (vf:FnAt P w K mg base "numbers_of" 3 ["words"] zcc) (D:zc K mg "read_weights" uj ["text"]):FnAtX P w K mg base "read_weights" 4 ["text"] ze7:=by
  refine FnAtX.of D sc_read_weights (fun vs H Q E h => ?_) (fun f cdv A outer s H vs Q E hr h => ?_)
  . obtain⟨ws,hc,rfl,_⟩:=h
    rfl
  . obtain⟨ws,hc,rfl,hw,hh,q⟩:=h
    refine⟨_,(@ze _ _ _ _ _ (PS.nox (zz (i:=1) sc_read_weights.nd rfl (Or.inl rfl) (y8 PySem.F.plainAttrs_str PySem.F.slot_str_split PySem.F.type_str_split vd (pv 0) (za (@zm _ _ _ _) (@zb _))))) (@ze _ _ _ _ _ (@yh _ _ _ _ _ _ _ _ (@yb _ _ _ _ _ _ _ _ ve (zx yf rfl B.len xi (za (pv 1) (@zb _))) (@zi _ _ _ _) (yd _)) (@zd _ _ _ (wa rfl C.q_NoWeight.toErr rfl C.m_NoWeight (y0 rfl) (za (@zm _ _ _ _) (@zb _)))) (@z7 _)) (@zd _ _ _ (PS.nox (@zp _ _ _ _ (@xn _ _ _ _ _ (za (zj vf (hr.mono (by decide)) rfl (za (y8 PySem.F.plainAttrs_str PySem.F.slot_str_split PySem.F.type_str_split vd (@z0 _ _ _ _ _ _ _ ya (pv 1) (@zi _ _ _ _) (fun _ _=>rfl)) (za (@zm _ _ _ _) (@zb _))) (@zb _))) (za (zj vf (hr.mono (by decide)) rfl (za (y8 PySem.F.plainAttrs_str PySem.F.slot_str_split PySem.F.type_str_split vd (@z0 _ _ _ _ _ _ _ ya (pv 1) (@zi _ _ _ _) (fun _ _=>rfl)) (za (@zm _ _ _ _) (@zb _))) (@zb _))) (@zb _))))))))),?_⟩;rw[show start ["text", "parts"] [V.str (x6 ws hc)]=[some (V.str (x6 ws hc)),none] from rfl];simp only[zg,zh,↓reduceIte];rw[zfz hw hh];refine⟨rfl,by decide +kernel,Zd (df hw hh) (by decide),show 2<=sizeLine by decide,fun l hl => ?_⟩;rw[show [Str.join (Str.ofString " ") (ws.map intS),Str.join (Str.ofString " ") (hc.map intS)].map V.str=[V.str (Str.join (Str.ofString " ") (ws.map intS)),V.str (Str.join (Str.ofString " ") (hc.map intS))] from rfl];obtain⟨S1,u1⟩:=lay hl (.lst [V.str (Str.join (Str.ofString " ") (ws.map intS)),V.str (Str.join (Str.ofString " ") (hc.map intS))]);generalize upd H l (.lst [V.str (Str.join (Str.ofString " ") (ws.map intS)),V.str (Str.join (Str.ofString " ") (hc.map intS))])=H1 at *;have lz:∀{ns:List Int},NumsOk ns->(Str.join (Str.ofString " ") (ns.map intS)).length<=sizeLine/\(Txt.split (Str.join (Str.ofString " ") (ns.map intS)) (Str.ofString " ")).length<=sizeLine:=fun h=>⟨Zd h.join.2 (by decide),by rw[h.split,Za];exact Zd h.len.2 (by decide)⟩
    refine⟨_,.inl (.of u1),rfl,ite2 (fun h=>absurd (show(!decide ((2:Int)=2))=true from h) (by decide)) fun _=>⟨_,.of u1,_,zy (j:=0) rfl,rfl,_,rfl,by decide +kernel,(lz hw).1,(lz hw).2,fun l2 hl2 => ?_⟩⟩;rw[hw.split];have S2:Same H1 (upd H1 l2 (.lst ((ws.map intS).map V.str))):=Same.upd (Same.refl _) hl2;refine⟨l2,ws,rfl,zn,by have:=hw.len.2;omega,hw.good,fun H3 l3 S3 h3 => ?_⟩;have S23:=S2.trans S3;refine⟨_,.of (S23 _ _ u1),_,zy (j:=1) rfl,rfl,_,rfl,by decide +kernel,(lz hh).1,(lz hh).2,fun l4 hl4 => ?_⟩;rw[hh.split];have S4:Same H3 (upd H3 l4 (.lst ((hc.map intS).map V.str))):=Same.upd (Same.refl _) hl4;refine⟨l4,hc,rfl,zn,by have:=hh.len.2;omega,hh.good,fun H5 l5 S5 h5=>⟨by decide,fun t ht => ?_⟩⟩;have S6:Same H5 (upd H5 t (.tup [V.ref l3,V.ref l5])):=Same.upd (Same.refl _) ht;exact q _ t l3 l5 (S1.trans (S23.trans (S4.trans (S5.trans S6)))) zn ((S4.trans (S5.trans S6)) _ _ h3) (S6 _ _ h5)
theorem f_weighted_table (qz:FnAtX P w K mg base "read_weights" 4 ["text"] ze7) (m8:FnAt P w K mg base "best_table" 8 ["house", "weights", "handicaps"] (eh K)) (D:zc K mg "weighted_table" vm ["house", "rest"]):FnAtX P w K mg base "weighted_table" 47 ["house", "rest"] g8:=by
  refine FnAtX.of D sc_weighted_table (fun vs H Q E h => ?_) (fun f cdv A outer s H vs Q E hr h => ?_)
  . obtain⟨p,o,h,hs,outs,ds,ws,hc,rfl,_⟩:=h
    rfl
  . obtain⟨p,o,h,hs,outs,ds,ws,hc,rfl,hH,G,hw,hh,lw,w1,lh,q⟩:=h
    refine⟨_,(@ze _ _ _ _ _ (zz (i:=2) sc_weighted_table.nd rfl (Or.inl rfl) (vc qz (hr.mono (by decide)) (xx rfl) rfl (za (pv 1) (@zb _)))) (@zd _ _ _ (PS.nox (@zp _ _ _ _ (zj m8 (hr.mono (by decide)) rfl (za (pv 0) (za (@z0 _ _ _ _ _ _ _ yq (pv 2) (@zi _ _ _ _) (fun _ _=>rfl)) (za (@z0 _ _ _ _ _ _ _ yq (pv 2) (@zi _ _ _ _) (fun _ _=>rfl)) (@zb _))))))))),?_⟩;rw[show start ["house", "rest", "told"] [V.ref p,V.str (x6 ws hc)]=[some (V.ref p),some (V.str (x6 ws hc)),none] from rfl];simp only[zg,zh,↓reduceIte];refine⟨ws,hc,rfl,hw,hh,fun H1 t l m S1 ht hl hm => ?_⟩;simp only[zg,zh,↓reduceIte];exact⟨_,.of ht,_,zy (j:=0) rfl,_,.of ht,_,zy (j:=1) rfl,p,o,h,l,m,hs,outs,ds,ws,hc,rfl,hH.mono S1,G,hl,lw,fun i hi=>⟨hw.good i hi,w1 i hi⟩,hm,lh,hh.good,fun H2 t2 S2 ht2=>q H2 t2 (S1.trans S2) ht2⟩
end
def z9(z:Str):Str:=(Txt.partition z (Str.ofString " ")).1
def w4(z:Str):Str:=(Txt.partition z (Str.ofString " ")).2.2
def wo:List Str:=["house", "rule", "best", "deal", "pays", "verdict", "menu"]
def yp(a r:Str):Str:=a++Str.ofString " " ++ r
theorem zj4{a r:Str}(h:a∈wo):Txt.partition (yp a r) (Str.ofString " ")=(a,Str.ofString " ", r):=zli (c:=32) uk (by
  simp only[wo,ZK,Zx,or_false]at h
  rcases h with rfl | rfl | rfl | rfl | rfl | rfl | rfl <;> decide +kernel)
structure su(z:Str):Prop where
  len:z.length<=sizeLine
  first:z9 z∈wo
  alone:z9 z = "verdict" -> z=z9 z
def i9(K:Fg)(H:Hp)(v:V):Prop:=(∃T,TyOf K H v (.type T)/\kit0 T "str" = some false)\/∃z:Str,v=.str z/\z.length<=sizeLine/\(z9 z∉wo\/(z9 z = "verdict" /\ z≠z9 z))
def zi3(a:Ad)(K:Fg):Sp:=fun vs H Q E=>∃v:V,vs=[v]/\((∃z:Str,v=.str z/\su z/\∀H',Same H H'->Q .non H')\/(i9 K H v/\∀H',Same H H'->E (.ref a.NoRow) none H'))
section
variable{P:Program}{w:World}{K:Fg}{mg:Str->Option Value}{base:Heap}{a:Ad}
theorem m5 (B:Bt mg) (C:Ct K mg a) (g_MAKERS:lq P w K mg "MAKERS" [("rule", "rule_table"),("best", "weighted_table")]) (g_ANSWERS:lq P w K mg "ANSWERS" [("deal", "deal_told"),("pays", "pays_told"),("verdict", "verdict_told"),("menu", "menu_told")]) (D:zc K mg "refuse_row" qg ["row"]):FnAtX P w K mg base "refuse_row" 1 ["row"] (zi3 a K):=by
  refine FnAtX.of D sc_refuse_row (fun vs H Q E h => ?_) (fun f cdv A outer s H vs Q E hr h => ?_)
  . obtain⟨v,rfl,_⟩:=h
    rfl
  . obtain⟨v,rfl,ways⟩:=h
    refine⟨_,(@ze _ _ _ _ _ (@yh _ _ _ _ _ _ _ _ (@yv _ _ _ _ (yx (zx xv rfl B.isinstance yk (za (pv 0) (za (t9 rfl B.str mv) (@zb _)))))) (@zd _ _ _ (wa rfl C.q_NoRow.toErr rfl C.m_NoRow (y0 rfl) (za (@zm _ _ _ _) (@zb _)))) (@z7 _)) (@ze _ _ _ _ _ (PS.nox (zz (i:=1) sc_refuse_row.nd rfl (Or.inl rfl) (@z0 _ _ _ _ _ _ _ yq (y8 PySem.F.plainAttrs_str PySem.F.slot_str_partition PySem.F.type_str_partition gx (pv 0) (za (@zm _ _ _ _) (@zb _))) (@zi _ _ _ _) (fun _ _=>rfl)))) (@ze _ _ _ _ _ (@yh _ _ _ _ _ _ _ _ (PW.pt (@zc0 _ _ _ _ _ _ _ (@yb _ _ _ _ _ _ _ _ ve (pv 1) (@zm _ _ _ _) (yd _)) (@zc0 _ _ _ _ _ _ _ (@yb _ _ _ _ _ _ _ _ zaw (pv 1) (mx rfl g_MAKERS) (by with_unfolding_all rfl)) (@zex _ _ _ _ (@yb _ _ _ _ _ _ _ _ zaw (pv 1) (mx rfl g_ANSWERS) (by with_unfolding_all rfl)))))) (@zd _ _ _ (wa rfl C.q_NoRow.toErr rfl C.m_NoRow (y0 rfl) (za (@zm _ _ _ _) (@zb _)))) (@z7 _)) (@zd _ _ _ (@yh _ _ _ _ _ _ _ _ (PW.pt (@zc0 _ _ _ _ _ _ _ (@yb _ _ _ _ _ _ _ _ ua (pv 1) (@zm _ _ _ _) (yd _)) (@zex _ _ _ _ (@yb _ _ _ _ _ _ _ _ ve (pv 0) (pv 1) (yd _))))) (@zd _ _ _ (wa rfl C.q_NoRow.toErr rfl C.m_NoRow (y0 rfl) (za (@zm _ _ _ _) (@zb _)))) (@z7 _)))))),?_⟩;rw[show start ["row", "first"] [v]=[some v,none] from rfl];simp only[zg,zh,↓reduceIte]
    have ways2:(∃T,TyOf K H v (.type T)/\kit0 T "str" = some false/\∀H',Same H H'->E (.ref a.NoRow) none H')\/∃z:Str,v=.str z/\z.length<=sizeLine/\(z9 z∈wo->(z9 z = "verdict" -> z=z9 z)->∀H',Same H H'->Q .non H')/\((z9 z∉wo\/(z9 z = "verdict" /\ z≠z9 z))->∀H',Same H H'->E (.ref a.NoRow) none H'):=by
      rcases ways with ⟨z,e,G,q⟩ | ⟨⟨T,h1,h2⟩ | ⟨z,e,lz,bad⟩,q⟩
      . exact .inr ⟨z,e,G.len,fun _ _=>q,fun bad=>by
          rcases bad with b | ⟨b1,b2⟩
          . exact absurd G.first b
          . exact absurd (G.alone b1) b2⟩
      . exact .inl ⟨T,h1,h2,q⟩
      . refine .inr ⟨z,e,lz,fun g1 g2 => ?_,fun _=>q⟩
        rcases bad with b | ⟨b1,b2⟩
        . exact absurd g1 b
        . exact absurd (g2 b1) b2
    rcases ways2 with ⟨T,h1,h2,q⟩ | ⟨z,ez,lz,q,e⟩
    . exact⟨T,h1,false,h2,iteT ⟨by decide,q _ (Same.refl _)⟩⟩
    . subst ez
      refine⟨_,.str _,true,aw,iteF ⟨rfl,z,rfl,by decide +kernel,lz,fun l hl => ?_⟩⟩
      show ∃x,SqT K (upd H l (.tup [V.str (z9 z),V.str (Txt.partition z (Str.ofString " ")).2.1,V.str (w4 z)])) l x/\_
      have S1:Same H (upd H l (.tup [V.str (z9 z),V.str (Txt.partition z (Str.ofString " ")).2.1,V.str (w4 z)])):=Same.upd (Same.refl _) hl;have t1:upd H l (.tup [V.str (z9 z),V.str (Txt.partition z (Str.ofString " ")).2.1,V.str (w4 z)]) l=some (.tup [V.str (z9 z),V.str (Txt.partition z (Str.ofString " ")).2.1,V.str (w4 z)]):=zn;refine⟨_,.of t1,V.str (z9 z),zy (j:=0) rfl,rfl,?_⟩;rw[show(upd H l (.tup [V.str (Txt.partition z (Str.ofString " ")).1,V.str (Txt.partition z (Str.ofString " ")).2.1,V.str (Txt.partition z (Str.ofString " ")).2.2]))=upd H l (.tup [V.str (z9 z),V.str (Txt.partition z (Str.ofString " ")).2.1,V.str (w4 z)]) from rfl];generalize upd H l (.tup [V.str (z9 z),V.str (Txt.partition z (Str.ofString " ")).2.1,V.str (w4 z)])=H1 at *;generalize z9 z=f at *
      have fin:f∈wo->(scal (V.str f) (V.str (Str.ofString "verdict"))=true/\if decide (V.str f=V.str (Str.ofString "verdict"))=true then scal (V.str z) (V.str f)=true/\if (!decide (V.str z=V.str f))=true then 1<=sizeLine/\E (Value.ref a.NoRow) none H1 else Q V.non H1 else Q V.non H1):=fun hf=>by
        refine⟨rfl,ite2 (fun h=>⟨rfl,ite2 (fun h2=>⟨by decide,e (.inr ⟨V.str.inj (of_decide_eq_true h),fun h3 => ?_⟩) H1 S1⟩) fun h2=>q hf (fun _ => ?_) H1 S1⟩) fun h=>q hf (fun h3=>absurd (decide_eq_true (congrArg V.str h3)) h) H1 S1⟩
        . rw[h3]at h2
          simp at h2
        . by_cases h3:z=f
          . exact h3
          . exact absurd (by rw[decide_eq_false (fun h4=>h3 (V.str.inj h4))];rfl) h2
      by_cases hf:f∈wo
      . have fin:=fin hf
        simp only[wo,ZK,Zx,or_false]at hf
        rcases hf with rfl | rfl | rfl | rfl | rfl | rfl | rfl
        . exact ite2 (fun h=>absurd h (by decide +kernel)) fun _=>fin
        . exact ite2 (fun _ p hp=>⟨_,rfl,_,hp,ite2 (fun h=>absurd h (by decide +kernel)) fun _=>fin⟩) fun h=>absurd (by decide +kernel) h
        . exact ite2 (fun _ p hp=>⟨_,rfl,_,hp,ite2 (fun h=>absurd h (by decide +kernel)) fun _=>fin⟩) fun h=>absurd (by decide +kernel) h
        all_goals exact ite2 (fun _ p hp=>⟨_,rfl,_,hp,ite2 (fun _ p2 hp2=>⟨_,rfl,_,hp2,ite2 (fun h=>absurd h (by decide +kernel)) fun _=>fin⟩) fun h=>absurd (by decide +kernel) h⟩) fun h=>absurd (by decide +kernel) h
      . have no:E (Value.ref a.NoRow) none H1:=e (.inl hf) H1 S1
        simp only[wo,ZK,Zx,or_false,not_or]at hf;obtain⟨n1,n2,n3,n4,n5,n6,n7⟩:=hf;have nb:∀y:Str,¬f=y->(f==y)=false:=fun y h=>beq_eq_false_iff_ne.mpr h
        have l1:List.lookup f [(Str.ofString "rule", Str.ofString "rule_table"),(Str.ofString "best", Str.ofString "weighted_table")]=none:=by
          simp only[List.lookup,nb _ n2,nb _ n3]
        have l2:List.lookup f [(Str.ofString "deal", Str.ofString "deal_told"),(Str.ofString "pays", Str.ofString "pays_told"),(Str.ofString "verdict", Str.ofString "verdict_told"),(Str.ofString "menu", Str.ofString "menu_told")]=none:=by
          simp only[List.lookup,nb _ n4,nb _ n5,nb _ n6,nb _ n7]
        refine ite2 (fun _ p hp=>⟨_,rfl,_,hp,?_⟩) fun h=>absurd (by rw[decide_eq_false (fun h4=>n1 (V.str.inj h4))];rfl) h
        rw[l1];refine ite2 (fun _ p2 hp2=>⟨_,rfl,_,hp2,?_⟩) fun h=>absurd rfl h
        rw[l2];exact ite2 (fun _=>⟨by decide,no⟩) fun h=>absurd rfl h
end
def xu(C dx:Addr)(h t:V):HO:=.ins C dx [("house", h),("table", t)]
def layT(K:Fg)(x:Addr)(Q:VK):VK:=fun v H=>∃C dx fs,H x=some (.ins C dx fs)/\Cls K C/\NoAttr K C "table" /\ fs.length<1000/\Q (.str "ok") (upd H x (.ins C dx (putF "table" v fs)))
def ji:List Str:=["deal", "pays", "verdict", "menu"]
def pi(a:Ad)(K:Fg)(C:Addr)(Sr Sb Sd:Sp):Sp:=fun vs H Q E=>∃(x dx:Addr) (h t v:V),vs=[.ref x,v]/\H x=some (xu C dx h t) /\
  ((i9 K H v/\∀H',Same H H'->E (.ref a.NoRow) none H') \/
   ∃z:Str,v=.str z/\su z /\
   ((z9 z = "house" /\ ∃(outs:List Str) (ds:List HD),w4 z=vy outs ds/\GoodHouse outs ds/\cu outs ds/\∀H' p o hh hs,Same H H'->HHouse H' p o hh hs outs ds->Q (.str "ok") (upd (upd H' x (xu C dx (.ref p) t)) x (xu C dx (.ref p) .non))) \/
    (z9 z ≠ "house" /\ h=.non/\∀H',Same H H'->E (.ref a.NoStand) none H') \/
    (z9 z = "rule" /\ ∃p,h=.ref p/\∀H1,Same H H1->Sr [.ref p,.str (w4 z)] H1 (layT K x Q) fun c _ H'=>E c none H') \/
    (z9 z = "best" /\ ∃p,h=.ref p/\∀H1,Same H H1->Sb [.ref p,.str (w4 z)] H1 (layT K x Q) fun c _ H'=>E c none H') \/
    (z9 z∈ji/\(∃p,h=.ref p)/\t=.non/\∀H',Same H H'->E (.ref a.NoStand) none H') \/
    (z9 z = "deal" /\ ∃p d,h=.ref p/\t=.ref d/\∀H1,Same H H1->Sd [.ref p,.ref d,.str (w4 z)] H1 Q fun c _ H'=>E c none H')))
theorem lt2(v h t:V):(putF "house" v [(("house" : Str),h),("table", t)]).length<1000:=by
  show([(("house" : Str),v),("table", t)]:List (Str×V)).length<1000
  simp
section
variable{P:Program}{w:World}{K:Fg}{mg:Str->Option Value}{base:Heap}{a:Ad}
theorem yr {Sr Sb Sd:Sp} (B:Bt mg) (C:Ct K mg a) (c_Desk:ug K mg "Desk" a.Desk "Desk.__init__" yn ["self"] ["house", "table"]) (g_MAKERS:lq P w K mg "MAKERS" [("rule", "rule_table"),("best", "weighted_table")]) (g_ANSWERS:lq P w K mg "ANSWERS" [("deal", "deal_told"),("pays", "pays_told"),("verdict", "verdict_told"),("menu", "menu_told")]) (m5:FnAtX P w K mg base "refuse_row" 1 ["row"] (zi3 a K)) (mz:FnAtX P w K mg base "read_house" 8 ["text"] zfd) (f_rule_table:FnAtX P w K mg base "rule_table" 47 ["house", "rest"] Sr) (f_weighted_table:FnAtX P w K mg base "weighted_table" 47 ["house", "rest"] Sb) (f_deal_told:FnAtX P w K mg base "deal_told" 12 ["house", "table", "rest"] Sd) (D:MtIn K a.Desk "say" "Desk.say" nk ["self", "row"]):nr P w K mg base a.Desk "say" 48 ["self", "row"] (pi a K a.Desk Sr Sb Sd):=by
  refine zj9 D sc_Desk_say (fun vs H Q E h => ?_) (fun f cdv A outer s H vs Q E hr h => ?_)
  . obtain⟨x,dx,h,t,v,rfl,_⟩:=h
    rfl
  . obtain⟨x,dx,h,t,v,rfl,hx,ways⟩:=h
    refine⟨_,(@ze _ _ _ _ _ (vx (vc m5 (hr.mono (by decide)) (xx rfl) rfl (za (pv 1) (@zb _)))) (@ze _ _ _ _ _ (PS.nox (zz (i:=2) sc_Desk_say.nd rfl (Or.inl rfl) (y8 PySem.F.plainAttrs_str PySem.F.slot_str_partition PySem.F.type_str_partition gx (pv 1) (za (@zm _ _ _ _) (@zb _))))) (@ze _ _ _ _ _ (PS.nox (zz (i:=3) sc_Desk_say.nd rfl (Or.inl rfl) (@z0 _ _ _ _ _ _ _ yq (pv 2) (@zi _ _ _ _) (fun _ _=>rfl)))) (@ze _ _ _ _ _ (PS.nox (zz (i:=4) sc_Desk_say.nd rfl (Or.inl rfl) (@z0 _ _ _ _ _ _ _ yq (pv 2) (@zi _ _ _ _) (fun _ _=>rfl)))) (@ze _ _ _ _ _ (@yh _ _ _ _ _ _ _ _ (@yb _ _ _ _ _ _ _ _ ua (pv 3) (@zm _ _ _ _) (yd _)) (@ze _ _ _ _ _ (@ir _ _ _ _ _ _ _ _ (pv 0) (vc mz (hr.mono (by decide)) (xx rfl) rfl (za (pv 4) (@zb _))) rfl) (@ze _ _ _ _ _ (PS.nox (@ir _ _ _ _ _ _ _ _ (pv 0) (@ql _ _ _) rfl)) (@zd _ _ _ (PS.nox (@zp _ _ _ _ (@zm _ _ _ _)))))) (@z7 _)) (@ze _ _ _ _ _ (@yh _ _ _ _ _ _ _ _ (@yb _ _ _ _ _ _ _ _ zcv (@gr _ _ _ _ _ (pv 0) rfl) (@ql _ _ _) (yd _)) (@zd _ _ _ (wa rfl C.q_NoStand.toErr rfl C.m_NoStand (y0 rfl) (za (@zm _ _ _ _) (@zb _)))) (@z7 _)) (@ze _ _ _ _ _ (@yh _ _ _ _ _ _ _ _ (@yb _ _ _ _ _ _ _ _ op_inG (pv 3) (mx rfl g_MAKERS) (by with_unfolding_all rfl)) (@ze _ _ _ _ _ (@ir _ _ _ _ _ _ _ _ (pv 0) (zc7 47 ["house", "rest"] (@zfo _ _ _ _ _ _ (mx rfl g_MAKERS) (pv 3) (fun _ _=>rfl)) (hr.mono (by decide)) (xx rfl) (za (@gr _ _ _ _ _ (pv 0) rfl) (za (pv 4) (@zb _)))) rfl) (@zd _ _ _ (PS.nox (@zp _ _ _ _ (@zm _ _ _ _))))) (@z7 _)) (@ze _ _ _ _ _ (@yh _ _ _ _ _ _ _ _ (@yb _ _ _ _ _ _ _ _ zcv (@gr _ _ _ _ _ (pv 0) rfl) (@ql _ _ _) (yd _)) (@zd _ _ _ (wa rfl C.q_NoStand.toErr rfl C.m_NoStand (y0 rfl) (za (@zm _ _ _ _) (@zb _)))) (@z7 _)) (@zd _ _ _ (@zp _ _ _ _ (zc7 12 ["house", "table", "rest"] (@zfo _ _ _ _ _ _ (mx rfl g_ANSWERS) (pv 3) (fun _ _=>rfl)) (hr.mono (by decide)) (xx rfl) (za (@gr _ _ _ _ _ (pv 0) rfl) (za (@gr _ _ _ _ _ (pv 0) rfl) (za (pv 4) (@zb _))))))))))))))),?_⟩;rw[show start ["self", "row", "parts", "first", "rest"] [V.ref x,v]=[some (V.ref x),some v,none,none,none] from rfl];refine zb6 fun T hT => ?_
    simp only[zg,zh,↓reduceIte]
    rcases ways with ⟨bad,q⟩ | ⟨z,rfl,G,ways⟩
    . exact⟨v,rfl,.inr ⟨bad,q⟩⟩
    refine⟨_,rfl,.inl ⟨z,rfl,G,fun H1 S1 => ?_⟩⟩;refine⟨rfl,z,rfl,by decide +kernel,G.len,fun l hl => ?_⟩;rw[show(upd H1 l (.tup [V.str (Txt.partition z (Str.ofString " ")).1,V.str (Txt.partition z (Str.ofString " ")).2.1,V.str (Txt.partition z (Str.ofString " ")).2.2]))=upd H1 l (.tup [V.str (z9 z),V.str (Txt.partition z (Str.ofString " ")).2.1,V.str (w4 z)]) from rfl];obtain⟨S2,t2⟩:=lay hl (.tup [V.str (z9 z),V.str (Txt.partition z (Str.ofString " ")).2.1,V.str (w4 z)]);generalize upd H1 l (.tup [V.str (z9 z),V.str (Txt.partition z (Str.ofString " ")).2.1,V.str (w4 z)])=H2 at *;refine⟨_,.of t2,V.str (z9 z),zy (j:=0) rfl,_,.of t2,V.str (w4 z),zy (j:=2) rfl,?_⟩;have hf:=G.first;generalize z9 z=b at *;generalize w4 z=r at *;have S02:=S1.trans S2;have hx2:=S02 _ _ hx;have nh:=c_Desk.no "house" (by simp);have nt:=c_Desk.no "table" (by simp)
    rcases ways with ⟨rfl,outs,ds,rfl,GH,TO,q⟩ | ⟨nb,rfl,q⟩ | ⟨rfl,p,rfl,q⟩ | ⟨rfl,p,rfl,q⟩ | ⟨ha,⟨p,rfl⟩,rfl,q⟩ | ⟨rfl,p,d,rfl,rfl,q⟩
    . rw[hT]
      clear hT T;refine hideK fun T hT => ?_
      simp only[zg,zh,↓reduceIte];refine⟨rfl,ite2 (fun _ => ?_) fun h=>absurd (by decide +kernel) h⟩;rw[hT];clear hT T;simp only[zg,zh,↓reduceIte];refine⟨outs,ds,rfl,GH,TO,fun H3 p o hh hs S3 hH => ?_⟩;have hx3:=(S02.trans S3) _ _ hx;refine⟨_,_,_,hx3,c_Desk.cl,nh,by simp,_,_,_,zn,c_Desk.cl,nt,lt2 _ _ _,q H3 p o hh hs (S02.trans S3) hH⟩
    . rw[hT]
      clear hT T;refine zge fun T U hT hU => ?_
      simp only[zg,zh,↓reduceIte];refine⟨rfl,ite2 (fun h=>absurd (of_decide_eq_true h) nb) fun _ => ?_⟩;rw[hU];clear hU U hT T;refine zge fun T U hT hU => ?_
      simp only[zg,zh,↓reduceIte];refine⟨_,_,_,hx2,c_Desk.cl,nh,_,rfl,ite2 (fun _ => ?_) fun h=>absurd (by decide) h⟩;rw[hT];simp only[zg,zh,↓reduceIte];exact⟨by decide,q H2 S02⟩
    . obtain⟨fr,fd,e1,k1,b1,G1⟩:=f_rule_table.ex
      have FR:FnRX P w K mg base fr 47 ["house", "rest"] Sr:=⟨fd,k1,b1,G1⟩;rw[hT];clear hT T;simp only[zg,zh,↓reduceIte];exact⟨rfl,ite2 (fun h=>absurd h (by decide +kernel)) fun _=>⟨_,_,_,hx2,c_Desk.cl,nh,_,rfl,ite2 (fun h=>absurd h (by simp)) fun _ g hg=>⟨_,hg,ite2 (fun _ g2 hg2=>⟨"rule_table", fr,_,hg2,rfl,e1,Sr,FR,_,_,_,hx2,c_Desk.cl,nh,_,rfl,q H2 S02⟩) fun h=>absurd (by decide +kernel) h⟩⟩⟩
    . obtain⟨fr,fd,e1,k1,b1,G1⟩:=f_weighted_table.ex
      have FR:FnRX P w K mg base fr 47 ["house", "rest"] Sb:=⟨fd,k1,b1,G1⟩;rw[hT];clear hT T;simp only[zg,zh,↓reduceIte];exact⟨rfl,ite2 (fun h=>absurd h (by decide +kernel)) fun _=>⟨_,_,_,hx2,c_Desk.cl,nh,_,rfl,ite2 (fun h=>absurd h (by simp)) fun _ g hg=>⟨_,hg,ite2 (fun _ g2 hg2=>⟨"weighted_table", fr,_,hg2,rfl,e1,Sb,FR,_,_,_,hx2,c_Desk.cl,nh,_,rfl,q H2 S02⟩) fun h=>absurd (by decide +kernel) h⟩⟩⟩
    . rw[hT]
      clear hT T;simp only[zg,zh,↓reduceIte]
      have e1:b≠Str.ofString "house" /\ ((List.lookup b [(Str.ofString "rule", Str.ofString "rule_table"),(Str.ofString "best", Str.ofString "weighted_table")]).isSome)=false:=by
        simp only[ji,ZK,Zx,or_false]at ha
        rcases ha with rfl | rfl | rfl | rfl <;> decide +kernel
      refine⟨rfl,ite2 (fun h=>absurd (of_decide_eq_true h) e1.1) fun _=>⟨_,_,_,hx2,c_Desk.cl,nh,_,rfl,ite2 (fun h=>absurd h (by simp)) fun _ g hg=>⟨_,hg,?_⟩⟩⟩;rw[e1.2];exact ite2 (fun h=>absurd h (by decide)) fun _=>⟨_,_,_,hx2,c_Desk.cl,nt,_,rfl,ite2 (fun _=>⟨by decide,q H2 S02⟩) fun h=>absurd (by decide) h⟩
    . obtain⟨fr,fd,e1,k1,b1,G1⟩:=f_deal_told.ex
      have FR:FnRX P w K mg base fr 12 ["house", "table", "rest"] Sd:=⟨fd,k1,b1,G1⟩;rw[hT];clear hT T;simp only[zg,zh,↓reduceIte];exact⟨rfl,ite2 (fun h=>absurd h (by decide +kernel)) fun _=>⟨_,_,_,hx2,c_Desk.cl,nh,_,rfl,ite2 (fun h=>absurd h (by simp)) fun _ g hg=>⟨_,hg,ite2 (fun h=>absurd h (by decide +kernel)) fun _=>⟨_,_,_,hx2,c_Desk.cl,nt,_,rfl,ite2 (fun h=>absurd h (by simp)) fun _ g2 hg2=>⟨"deal_told", fr,_,hg2,rfl,e1,Sd,FR,_,_,_,hx2,c_Desk.cl,nh,_,rfl,_,_,_,hx2,c_Desk.cl,nt,_,rfl,q H2 S02⟩⟩⟩⟩⟩
end
def rKey(r:List Str):List Key:=r.map Sum.inr
theorem zfj(r:List Str):(rKey r).map kV=r.map V.str:=by
  rw[rKey,Yz];rfl
def zgz:Sp:=fun vs H Q _=>∃(d:Addr) (kvs:List (List Key×V)) (row:List Str) (v:V),vs=[.ref d,.str (Str.join (Str.ofString " ") row)]/\H d=some (.dT kvs)/\valV kvs (rKey row)=some v/\row≠[]/\(∀x∈row,uf x)/\row.length<=8/\(Str.join (Str.ofString " ") row).length<=sizeLine/\∀H' p,Same H H'->H' p=some (.tup (row.map V.str))->Q (.ref p) H'
def ja:Sp:=fun vs H Q _=>∃(p d:Addr) (kvs:List (List Key×V)) (row:List Str) (v:V),vs=[.ref p,.ref d,.str (Str.join (Str.ofString " ") row)]/\H d=some (.dT kvs)/\valV kvs (rKey row)=some v/\row≠[]/\(∀x∈row,uf x)/\row.length<=8/\(Str.join (Str.ofString " ") row).length<=sizeLine/\∀H',Same H H'->Q v H'
section
variable{P:Program}{w:World}{K:Fg}{mg:Str->Option Value}{base:Heap}{a:Ad}
theorem jj (B:Bt mg) (C:Ct K mg a) (D:zc K mg "row_from" nq ["table", "rest"]):FnAtX P w K mg base "row_from" 1 ["table", "rest"] zgz:=by
  refine FnAtX.of D sc_row_from (fun vs H Q E h => ?_) (fun f cdv A outer s H vs Q E hr h => ?_)
  . obtain⟨d,kvs,row,v,rfl,_⟩:=h
    rfl
  . obtain⟨d,kvs,row,v,rfl,hd,hv,r0,rp,r8,lz,q⟩:=h
    refine⟨_,(@ze _ _ _ _ _ (PS.nox (zz (i:=2) sc_row_from.nd rfl (Or.inl rfl) (y4 sw rfl B.tuple sm (za (y8 PySem.F.plainAttrs_str PySem.F.slot_str_split PySem.F.type_str_split vd (pv 1) (za (@zm _ _ _ _) (@zb _))) (@zb _))))) (@ze _ _ _ _ _ (@yh _ _ _ _ _ _ _ _ (@yb _ _ _ _ _ _ _ _ (zis (hu10 hr)) (pv 2) (pv 0) (by with_unfolding_all rfl)) (@zd _ _ _ (wa rfl C.q_NoWord.toErr rfl C.m_NoWord (y0 rfl) (za (@zm _ _ _ _) (@zb _)))) (@z7 _)) (@zd _ _ _ (PS.nox (@zp _ _ _ _ (pv 2)))))),?_⟩;rw[show start ["table", "rest", "row"] [V.ref d,V.str (Str.join (Str.ofString " ") row)]=[some (V.ref d),some (V.str (Str.join (Str.ofString " ") row)),none] from rfl];simp only[zg,zh,↓reduceIte];have sp:=b9 r0 rp;refine⟨rfl,by decide +kernel,lz,?_,fun l hl => ?_⟩
    . rw[sp]
      exact Zd r8 (by decide)
    rw[sp];obtain⟨S1,t1⟩:=lay hl (.lst (row.map V.str));generalize upd H l (.lst (row.map V.str))=H1 at *;refine⟨_,.of t1,fun p hp => ?_⟩;obtain⟨S2,t2⟩:=lay hp (.tup (row.map V.str));generalize upd H1 p (.tup (row.map V.str))=H2 at *;have S02:=S1.trans S2
    have g:DGet H2 d (.ref p) (some v):=by
      have:=DGet.t (k:=rKey row) (S02 _ _ hd) (b:=p) (by rw[zfj];exact t2)
      rwa [hv]at this
    exact⟨_,g,ite2 (fun h=>absurd h (by simp)) fun _=>q _ p S02 t2⟩
theorem f_deal_told (B:Bt mg) (jj:FnAtX P w K mg base "row_from" 1 ["table", "rest"] zgz) (D:zc K mg "deal_told" p9 ["house", "table", "rest"]):FnAtX P w K mg base "deal_told" 12 ["house", "table", "rest"] ja:=by
  refine FnAtX.of D zds (fun vs H Q E h => ?_) (fun f cdv A outer s H vs Q E hr h => ?_)
  . obtain⟨p,d,kvs,row,v,rfl,_⟩:=h
    rfl
  . obtain⟨p,d,kvs,row,v,rfl,hd,hv,r0,rp,r8,lz,q⟩:=h
    refine⟨_,(@zd _ _ _ (@zp _ _ _ _ (@zlu _ _ _ _ _ _ (hu10 hr) (pv 1) (vc jj (hr.mono (by decide)) (xx rfl) rfl (za (pv 1) (za (pv 2) (@zb _)))) (fun _ _=>rfl)))),?_⟩;rw[show start ["house", "table", "rest"] [V.ref p,V.ref d,V.str (Str.join (Str.ofString " ") row)]=[some (V.ref p),some (V.ref d),some (V.str (Str.join (Str.ofString " ") row))] from rfl];simp only[zg,zh,↓reduceIte];refine⟨d,kvs,row,v,rfl,hd,hv,r0,rp,r8,lz,fun H1 b S1 hb => ?_⟩
    have g:DGet H1 d (.ref b) (some v):=by
      have:=DGet.t (k:=rKey row) (S1 _ _ hd) (b:=b) (by rw[zfj];exact hb)
      rwa [hv]at this
    exact⟨_,g,q _ S1⟩
end
theorem xy(z:Str)(n:Nat):(xw z n).length=z.length*n:=by
  unfold xw Str.length;simp[List.length_flatten,Nat.mul_comm]
theorem xm(y z:Str):(y++z).length=y.length+z.length:=by
  show(y.cps++z.cps).size=_
  simp[Str.length]
theorem zcx{i:Int}(h0:0<=i)(h1:i<26):atI (Str.ofString "abcdefghijklmnopqrstuvwxyz").cps.toList i=some (97+i.toNat):=by
  have h:∀j:Fin 26,(Str.ofString "abcdefghijklmnopqrstuvwxyz").cps.toList[j.val]? = some (97+j.val):=by decide +kernel
  have:=zy (xs:=(Str.ofString "abcdefghijklmnopqrstuvwxyz").cps.toList) (j:=i.toNat) (v:=97+i.toNat) (h ⟨i.toNat,by omega⟩)
  rwa [Yt h0]at this
theorem xg(a:Int){n:Int}(h:0<n):0<=a % n/\a % n<n:=⟨Int.emod_nonneg _ (by omega),YQ _ h⟩
def w26a:List Str:=[Str.ofString "deal", Str.ofString "rule", Str.ofString "best", Str.ofString "house", Str.ofString "pays", Str.ofString "verdict", Str.ofString "menu", Str.ofString "ok", Str.ofString "ring", Str.ofString "when", Str.ofString "says", Str.ofString "count", Str.ofString "not"]
def w26b:List Str:=[Str.ofString "and", Str.ofString "or", Str.ofString "payable", Str.ofString "a", Str.ofString "b", Str.ofString "c", Str.ofString "aa", Str.ofString "ab", Str.ofString "ba", Str.ofString "d", Str.ofString "e", Str.ofString "f", Str.ofString "g"]
def w26n(j:Nat):Str:=(w26a++w26b).getD j ⟨#[]⟩
theorem zjf:∀j:Fin 26,GoodN (w26n j.val):=by unfold GoodN;decide +kernel
theorem zlb:∀i j:Fin 26,w26n i.val=w26n j.val->i=j:=by decide +kernel
theorem w26_at(j:Fin 26):(w26a.map V.str++w26b.map V.str)[j.val]? = some (V.str (w26n j.val)):=by
  have hl:(w26a++w26b).length=26:=rfl;have h:(w26a++w26b)[j.val]? = some (w26a++w26b)[j.val]:=Zb (by rw[hl];exact j.isLt);rw[<-Zn,Ze,w26n,Zk,h];rfl
theorem zan{f:Nat->Str}{n:Nat}(hg:∀k,k<n->GoodN (f k))(hi:∀i j,i<n->j<n->f i=f j->i=j):(∀z∈(List.range n).map f,GoodN z)/\((List.range n).map f).Nodup:=by
  refine⟨fun z hz => ?_,?_⟩
  . obtain⟨i,h,rfl⟩:=Zp.mp hz
    exact hg i (ZT.mp h)
  . refine YV.mpr (List.Pairwise.imp_of_mem ?_ (List.nodup_range (n:=n)))
    intro i j h1 h2 hne e;exact hne (hi i j (ZT.mp h1) (ZT.mp h2) e)
def zf7(m:Int)(k:Nat):Str:=w26n ((m+k) % 26).toNat
def jq(fi:Str)(k:Nat):Str:=xw fi (k+1)
def zb3(fi:Str)(p q:Nat)(b st:Int)(k:Nat):Str:=xw fi p++chr1 (97+((b+k*st) % 26).toNat)++xw fi q
theorem poolW(m:Int){n:Nat}(hn:n<=4):(∀z∈(List.range n).map (zf7 m),GoodN z)/\((List.range n).map (zf7 m)).Nodup:=by
  refine zan (fun k _ => ?_) (fun i j hi hj e => ?_)
  . have:=xg (m+k) (show(0:Int)<26 by decide)
    exact zjf ⟨((m+k) % 26).toNat,by omega⟩
  . have h1:=xg (m+i) (show(0:Int)<26 by decide)
    have h2:=xg (m+j) (show(0:Int)<26 by decide);have:=zlb ⟨((m+i) % 26).toNat,by omega⟩ ⟨((m+j) % 26).toNat,by omega⟩ e;have h3:((m+i) % 26).toNat=((m+j) % 26).toNat:=congrArg Fin.val this;omega
theorem zcj{fi:Str}{c:Nat}(hf:fi=chr1 c)(hc:97<=c/\c<=122):∀d∈fi.cps.toList,97<=d/\d<=122:=fun d hd=>by
  have:d=c:=by rw[hf]at hd;simpa[chr1] using hd
  omega
theorem poolR{fi:Str}{n c:Nat}(hf:fi=chr1 c)(hc:97<=c/\c<=122)(hn:n<=4):(∀z∈(List.range n).map (jq fi),GoodN z)/\((List.range n).map (jq fi)).Nodup:=by
  have hl:fi.length=1:=by rw[hf];rfl
  refine zan (fun k hk => ?_) (fun i j hi hj e => ?_)
  . refine⟨?_,?_,fun d hd=>zcj hf hc d (jt hd)⟩
    . rw[jq,xy,hl];omega
    . rw[jq,xy,hl];omega
  . have:=congrArg Str.length e
    rw[jq,jq,xy,xy,hl]at this;omega
theorem poolL{fi:Str}{p q:Nat}{b s:Int}{n c:Nat}(hf:fi=chr1 c)(hc:97<=c/\c<=122)(hpq:p<=3/\q<=3)(hs:0<=s/\s<6)(hn:n<=4):(∀z∈(List.range n).map (zb3 fi p q b (1+2*s)),GoodN z)/\((List.range n).map (zb3 fi p q b (1+2*s))).Nodup:=by
  have hl:fi.length=1:=by rw[hf];rfl
  refine zan (fun k _ => ?_) (fun i j hi hj e => ?_)
  . have:=xg (b+k*(1+2*s)) (show(0:Int)<26 by decide)
    unfold zb3;refine⟨?_,?_,fun d hd => ?_⟩
    . rw[xm,xm,xy,xy,hl]
      show 1<=_+1+_
      omega
    . rw[xm,xm,xy,xy,hl]
      show _+1+_<=8
      omega
    . rcases fv hd with z | z
      . rcases fv z with z | z
        . exact zcj hf hc d (jt z)
        . have:d=97+((b+k*(1+2*s)) % 26).toNat:=by simpa[chr1] using z
          omega
      . exact zcj hf hc d (jt z)
  . have h:=zlx _ e
    have h1:=xg (b+i*(1+2*s)) (show(0:Int)<26 by decide);have h2:=xg (b+j*(1+2*s)) (show(0:Int)<26 by decide);have h3:(b+i*(1+2*s)) % 26=(b+j*(1+2*s)) % 26:=by omega
    have:s=0\/s=1\/s=2\/s=3\/s=4\/s=5:=by omega
    rcases this with rfl | rfl | rfl | rfl | rfl | rfl <;> omega
def bb:Sp:=fun vs H Q _=>∃(c top:Int),vs=[.int c,.int top]/\10^18<=top/\top<=10^59/\∀v:Int,-(10^59)<=v->v<=10^59->Q (.int v) H
def ai:Sp:=fun vs H Q _=>∃(c:Int) (many:Nat),vs=[.int c,.int many]/\many<=4/\∀(H':Hp) (l:Addr) (zs:List Str),Same H H'->H l=none->H' l=some (.lst (zs.map V.str))->zs.length=many->(∀z∈zs,GoodN z)->zs.Nodup->Q (.ref l) H'
def PvPl(H:Hp)(f:Nat->Str)(i:Nat)(ys:List V)(H':Hp):Prop:=H'=H/\ys=((List.range i).map f).map V.str
def PvNl(st:L2.St)(l:Addr)(H:Hp)(f:Nat->Str)(i:Nat)(σ:L2.St)(H':Hp):Prop:=Same H H'/\H' l=some (.lst (((List.range i).map f).map V.str))/\∃v1 v2 v3:Option V,σ=st++[v1,v2,v3]
theorem j0(f:Nat->Str)(i:Nat):((List.range (i+1)).map f).map V.str=((List.range i).map f).map V.str++[V.str (f i)]:=by rw[List.range_succ];simp
section
variable{P:Program}{w:World}{K:Fg}{mg:Str->Option Value}{base:Heap}{a:Ad}
theorem y7 (B:Bt mg) (D:zc K mg "_law_cell" me ["script", "k"]):FnAt P w K mg base "_law_cell" 1 ["script", "k"] (gd K):=by
  refine FnAt.of D zd0 (fun vs H Q E h => ?_) (fun f cdv A outer s H vs Q E hr h => ?_)
  . obtain⟨a,ns,k,rfl,_⟩:=h
    rfl
  . obtain⟨a,ns,k,rfl,hS,hk,q⟩:=h
    refine⟨_,(@ze _ _ _ _ _ (@yh _ _ _ _ _ _ _ _ (@yb _ _ _ _ _ _ _ _ op_lt (pv 1) (zx yf rfl B.len xi (za (pv 0) (@zb _))) (yd _)) (@zd _ _ _ (@zp _ _ _ _ (@z0 _ _ _ _ _ _ _ ya (pv 0) (pv 1) (fun _ _=>rfl)))) (@z7 _)) (@zd _ _ _ (@zp _ _ _ _ (@zi _ _ _ _)))),?_⟩;rw[show start ["script", "k"] [V.ref a,V.int k]=[some (V.ref a),some (V.int k)] from rfl];simp only[zg,zh,↓reduceIte];refine⟨ns.map V.int,.inl hS,?_⟩;rw[Za];refine ite2 (fun h => ?_) (fun h => ?_)
    . have h':k<ns.length:=of_decide_eq_true h
      have hlt:k.toNat<ns.length:=by omega
      have e:ns[k.toNat]? = some ns[k.toNat]:=by simp[hlt]
      have e2:=zy (xs:=ns.map V.int) (j:=k.toNat) (v:=V.int ns[k.toNat]) (by rw[Ze,e];rfl);rw[Yt hk]at e2;exact⟨ns.map V.int,hS,_,e2,q _⟩
    . exact q 0
theorem wq (D:zc K mg "_law_number" rg ["cell", "top"]):FnAt P w K mg base "_law_number" 1 ["cell", "top"] bb:=by
  refine FnAt.of D zbx (fun vs H Q E h => ?_) (fun f cdv A outer s H vs Q E hr h => ?_)
  . obtain⟨c,top,rfl,_⟩:=h
    rfl
  . obtain⟨c,top,rfl,t0,t1,q⟩:=h
    refine⟨_,(@ze _ _ _ _ _ (@yh _ _ _ _ _ _ _ _ (@yb _ _ _ _ _ _ _ _ ua (@zt _ _ _ _ _ _ _ _ xt (pv 0) (@zi _ _ _ _)) (@zi _ _ _ _) (yd _)) (@zd _ _ _ (@zp _ _ _ _ (@zt _ _ _ _ _ _ _ _ bj (@zt _ _ _ _ _ _ _ _ xt (@zt _ _ _ _ _ _ _ _ wp (pv 0) (@zi _ _ _ _)) (@zi _ _ _ _)) (@zi _ _ _ _)))) (@z7 _)) (@ze _ _ _ _ _ (@yh _ _ _ _ _ _ _ _ (@yb _ _ _ _ _ _ _ _ ua (@zt _ _ _ _ _ _ _ _ xt (pv 0) (@zi _ _ _ _)) (@zi _ _ _ _) (yd _)) (@zd _ _ _ (@zp _ _ _ _ (@zt _ _ _ _ _ _ _ _ bj (@zt _ _ _ _ _ _ _ _ xt (@zt _ _ _ _ _ _ _ _ wp (pv 0) (@zi _ _ _ _)) (@zi _ _ _ _)) (@zi _ _ _ _)))) (@z7 _)) (@ze _ _ _ _ _ (@yh _ _ _ _ _ _ _ _ (@yb _ _ _ _ _ _ _ _ ua (@zt _ _ _ _ _ _ _ _ xt (pv 0) (@zi _ _ _ _)) (@zi _ _ _ _) (yd _)) (@zd _ _ _ (@zp _ _ _ _ (@zt _ _ _ _ _ _ _ _ bj (@zt _ _ _ _ _ _ _ _ xt (@zt _ _ _ _ _ _ _ _ wp (pv 0) (@zi _ _ _ _)) (@zt _ _ _ _ _ _ _ _ iy (@zi _ _ _ _) (@zt _ _ _ _ _ _ _ _ jc (@zi _ _ _ _) (@zi _ _ _ _)))) (@zt _ _ _ _ _ _ _ _ jc (@zi _ _ _ _) (@zi _ _ _ _))))) (@z7 _)) (@zd _ _ _ (@zp _ _ _ _ (@zt _ _ _ _ _ _ _ _ bj (@zt _ _ _ _ _ _ _ _ xt (@zt _ _ _ _ _ _ _ _ wp (pv 0) (@zi _ _ _ _)) (@zt _ _ _ _ _ _ _ _ wf (@zt _ _ _ _ _ _ _ _ iy (@zi _ _ _ _) (pv 1)) (@zi _ _ _ _))) (pv 1))))))),?_⟩;rw[show start ["cell", "top"] [V.int c,V.int top]=[some (V.int c),some (V.int top)] from rfl];simp only[zg,zh,↓reduceIte];have h1:=xg (c/4) (show(0:Int)<19 by decide);have h2:=xg (c/4) (show(0:Int)<3 by decide);have h3:=xg (c/4) (show(0:Int)<2*10^18 by decide);have h4:=xg (c/4) (show(0:Int)<2*top+1 by omega);refine⟨by decide,rfl,ite2 (fun h=>⟨⟨by decide,by decide⟩,by decide,q _ (by omega) (by omega)⟩) (fun h => ?_)⟩;refine⟨by decide,rfl,ite2 (fun h=>⟨⟨by decide,by decide⟩,by decide,q _ (by omega) (by omega)⟩) (fun h => ?_)⟩;refine⟨by decide,rfl,ite2 (fun h=>⟨⟨by decide,by decide⟩,⟨by decide,by decide,by decide⟩,.inl ⟨by decide,by decide⟩,by decide,⟨by decide,by decide,by decide⟩,q _ (by show -(10^59)<=c/4 % (2*10^18)-10^18;omega) (by show c/4 % (2*10^18)-10^18<=10^59;omega)⟩) (fun h => ?_)⟩;exact⟨⟨by decide,by decide⟩,.inl ⟨by decide,by decide⟩,by omega,q _ (by omega) (by omega)⟩
theorem vz (B:Bt mg) (D:zc K mg "_law_names" zr ["cell", "many"]):FnAt P w K mg base "_law_names" 1 ["cell", "many"] ai:=by
  refine FnAt.of D sc_law_names (fun vs H Q E h => ?_) (fun f cdv A outer s H vs Q E hr h => ?_)
  . obtain⟨c,many,rfl,_⟩:=h
    rfl
  . obtain⟨c,many,rfl,hm,q⟩:=h
    have s8:PS ((cxOf CX0 P w K mg base ["cell", "many", "letters", "words", "other", "names", "k", "sign", "head"] "_law_names" (zf zr) f cdv A outer s H E).nox) ((yg zr).getD 8 (.Pass ⟨0,0,0,0⟩)) _:=(@zp _ _ _ _ (pv 5));have b8:PSs (cxOf CX0 P w K mg base ["cell", "many", "letters", "words", "other", "names", "k", "sign", "head"] "_law_names" (zf zr) f cdv A outer s H E).nox ((yg zr).drop 8) _:=(@zk2 _ _ _ _ _ @s8 rfl rfl);have s7:PS ((cxOf CX0 P w K mg base ["cell", "many", "letters", "words", "other", "names", "k", "sign", "head"] "_law_names" (zf zr) f cdv A outer s H E).nox) ((yg zr).getD 7 (.Pass ⟨0,0,0,0⟩)) _:=(xp PassesOwn.never rfl (xz rfl B.range (za (pv 1) (@zb _))) (zw (i:=6) sc_law_names.nd rfl (Or.inl rfl)) (@ze _ _ _ _ _ (@zz _ _ 7 _ _ _ _ sc_law_names.nd (by rfl) (by exact Or.inl rfl) (@z0 _ _ _ _ _ _ _ zb7 (pv 2) (@zt _ _ _ _ _ _ _ _ xt (@zt _ _ _ _ _ _ _ _ wf (@zt _ _ _ _ _ _ _ _ wp (pv 0) (@zi _ _ _ _)) (@zt _ _ _ _ _ _ _ _ iy (pv 6) (@zt _ _ _ _ _ _ _ _ wf (@zi _ _ _ _) (@zt _ _ _ _ _ _ _ _ iy (@zi _ _ _ _) (@zt _ _ _ _ _ _ _ _ xt (@zt _ _ _ _ _ _ _ _ wp (pv 0) (@zi _ _ _ _)) (@zi _ _ _ _)))))) (@zi _ _ _ _)) (fun _ _=>rfl)) (by rfl) (by first | exact Or.inl rfl | exact Or.inr rfl)) (@ze _ _ _ _ _ (@zz _ _ 8 _ _ _ _ sc_law_names.nd (by rfl) (by exact Or.inl rfl) (@zt _ _ _ _ _ _ _ _ zaf (pv 4) (@zt _ _ _ _ _ _ _ _ xt (@zt _ _ _ _ _ _ _ _ wp (pv 0) (@zi _ _ _ _)) (@zi _ _ _ _))) (by rfl) (by first | exact Or.inl rfl | exact Or.inr rfl)) (@zd _ _ _ (vx (y8 PySem.F.plainAttrs_list PySem.F.slot_list_append PySem.F.type_list_append ow (pv 5) (za (@zt _ _ _ _ _ _ _ _ xf (@zt _ _ _ _ _ _ _ _ xf (pv 8) (pv 7)) (@zt _ _ _ _ _ _ _ _ zaf (pv 4) (@zt _ _ _ _ _ _ _ _ xt (@zt _ _ _ _ _ _ _ _ wp (pv 0) (@zi _ _ _ _)) (@zi _ _ _ _)))) (@zb _))))))));have b7:PSs (cxOf CX0 P w K mg base ["cell", "many", "letters", "words", "other", "names", "k", "sign", "head"] "_law_names" (zf zr) f cdv A outer s H E).nox ((yg zr).drop 7) _:=(@oj _ _ _ _ _ _ @s7 rfl @b8);have s6:PS ((cxOf CX0 P w K mg base ["cell", "many", "letters", "words", "other", "names", "k", "sign", "head"] "_law_names" (zf zr) f cdv A outer s H E).nox) ((yg zr).getD 6 (.Pass ⟨0,0,0,0⟩)) _:=(@zz _ _ 5 _ _ _ _ sc_law_names.nd (by rfl) (by exact Or.inl rfl) (@we _ _ _ _ (@zb _)) (by rfl) (by first | exact Or.inl rfl | exact Or.inr rfl));have b6:PSs (cxOf CX0 P w K mg base ["cell", "many", "letters", "words", "other", "names", "k", "sign", "head"] "_law_names" (zf zr) f cdv A outer s H E).nox ((yg zr).drop 6) _:=(@oj _ _ _ _ _ _ @s6 rfl @b7);have s5:PS ((cxOf CX0 P w K mg base ["cell", "many", "letters", "words", "other", "names", "k", "sign", "head"] "_law_names" (zf zr) f cdv A outer s H E).nox) ((yg zr).getD 5 (.Pass ⟨0,0,0,0⟩)) _:=(@zz _ _ 4 _ _ _ _ sc_law_names.nd (by rfl) (by exact Or.inl rfl) (@z0 _ _ _ _ _ _ _ zb7 (pv 2) (@zt _ _ _ _ _ _ _ _ xt (@zt _ _ _ _ _ _ _ _ wp (pv 0) (@zi _ _ _ _)) (@zi _ _ _ _)) (fun _ _=>rfl)) (by rfl) (by first | exact Or.inl rfl | exact Or.inr rfl));have b5:PSs (cxOf CX0 P w K mg base ["cell", "many", "letters", "words", "other", "names", "k", "sign", "head"] "_law_names" (zf zr) f cdv A outer s H E).nox ((yg zr).drop 5) _:=(@oj _ _ _ _ _ _ @s5 rfl @b6);have s4:PS ((cxOf CX0 P w K mg base ["cell", "many", "letters", "words", "other", "names", "k", "sign", "head"] "_law_names" (zf zr) f cdv A outer s H E).nox) ((yg zr).getD 4 (.Pass ⟨0,0,0,0⟩)) _:=(@yh _ _ _ _ _ _ _ _ (@yb _ _ _ _ _ _ _ _ ua (@zt _ _ _ _ _ _ _ _ xt (pv 0) (@zi _ _ _ _)) (@zi _ _ _ _) (yd _)) (@zd _ _ _ (@zp _ _ _ _ (yj ["k"] ["cell", "many", "letters", "words", "other", "names", "k?", "sign", "head"] rfl (xz rfl B.range (za (pv 1) (@zb _))) (fun _=>(zw (i:=0) (show(["k", "cell", "many", "letters", "words", "other", "names", "k?", "sign", "head"]:List Str).Nodup by decide +kernel) rfl (Or.inl rfl))) (fun _=>(@yi _)) (fun _=>(@zt _ _ _ _ _ _ _ _ zaf (@z0 _ _ _ _ _ _ _ zb7 (pv 3) (@zt _ _ _ _ _ _ _ _ xt (@zt _ _ _ _ _ _ _ _ wp (pv 1) (@zi _ _ _ _)) (@zi _ _ _ _)) (fun _ _=>rfl)) (@zt _ _ _ _ _ _ _ _ wf (pv 0) (@zi _ _ _ _)))) rfl (by decide +kernel) rfl rfl))) (@z7 _));have b4:PSs (cxOf CX0 P w K mg base ["cell", "many", "letters", "words", "other", "names", "k", "sign", "head"] "_law_names" (zf zr) f cdv A outer s H E).nox ((yg zr).drop 4) _:=(@oj _ _ _ _ _ _ @s4 rfl @b5);have s3:PS ((cxOf CX0 P w K mg base ["cell", "many", "letters", "words", "other", "names", "k", "sign", "head"] "_law_names" (zf zr) f cdv A outer s H E).nox) ((yg zr).getD 3 (.Pass ⟨0,0,0,0⟩)) _:=(@yh _ _ _ _ _ _ _ _ (@yb _ _ _ _ _ _ _ _ ua (@zt _ _ _ _ _ _ _ _ xt (pv 0) (@zi _ _ _ _)) (@zi _ _ _ _) (yd _)) (@zd _ _ _ (@zp _ _ _ _ (yj ["k"] ["cell", "many", "letters", "words", "other", "names", "k?", "sign", "head"] rfl (xz rfl B.range (za (pv 1) (@zb _))) (fun _=>(zw (i:=0) (show(["k", "cell", "many", "letters", "words", "other", "names", "k?", "sign", "head"]:List Str).Nodup by decide +kernel) rfl (Or.inl rfl))) (fun _=>(@yi _)) (fun _=>(@z0 _ _ _ _ _ _ _ ya (pv 4) (@zt _ _ _ _ _ _ _ _ xt (@zt _ _ _ _ _ _ _ _ wf (@zt _ _ _ _ _ _ _ _ wp (pv 1) (@zi _ _ _ _)) (pv 0)) (@zi _ _ _ _)) (fun _ _=>rfl))) rfl (by decide +kernel) rfl rfl))) (@z7 _));have b3:PSs (cxOf CX0 P w K mg base ["cell", "many", "letters", "words", "other", "names", "k", "sign", "head"] "_law_names" (zf zr) f cdv A outer s H E).nox ((yg zr).drop 3) _:=(@oj _ _ _ _ _ _ @s3 rfl @b4);have s2:PS ((cxOf CX0 P w K mg base ["cell", "many", "letters", "words", "other", "names", "k", "sign", "head"] "_law_names" (zf zr) f cdv A outer s H E).nox) ((yg zr).getD 2 (.Pass ⟨0,0,0,0⟩)) _:=(@zz _ _ 3 _ _ _ _ sc_law_names.nd (by rfl) (by exact Or.inr rfl) (@zt _ _ _ _ _ _ _ _ zcp (pv 3) (@we _ _ _ _ (@za _ _ _ _ _ (@zm _ _ _ _) (@za _ _ _ _ _ (@zm _ _ _ _) (@za _ _ _ _ _ (@zm _ _ _ _) (@za _ _ _ _ _ (@zm _ _ _ _) (@za _ _ _ _ _ (@zm _ _ _ _) (@za _ _ _ _ _ (@zm _ _ _ _) (@za _ _ _ _ _ (@zm _ _ _ _) (@za _ _ _ _ _ (@zm _ _ _ _) (@za _ _ _ _ _ (@zm _ _ _ _) (@za _ _ _ _ _ (@zm _ _ _ _) (@za _ _ _ _ _ (@zm _ _ _ _) (@za _ _ _ _ _ (@zm _ _ _ _) (@za _ _ _ _ _ (@zm _ _ _ _) (@zb _) (zk nofun)) (zk nofun)) (zk nofun)) (zk nofun)) (zk nofun)) (zk nofun)) (zk nofun)) (zk nofun)) (zk nofun)) (zk nofun)) (zk nofun)) (zk nofun)) (zk nofun)))) (by rfl) (by first | exact Or.inl rfl | exact Or.inr rfl));have b2:PSs (cxOf CX0 P w K mg base ["cell", "many", "letters", "words", "other", "names", "k", "sign", "head"] "_law_names" (zf zr) f cdv A outer s H E).nox ((yg zr).drop 2) _:=(@oj _ _ _ _ _ _ @s2 rfl @b3);have s1:PS ((cxOf CX0 P w K mg base ["cell", "many", "letters", "words", "other", "names", "k", "sign", "head"] "_law_names" (zf zr) f cdv A outer s H E).nox) ((yg zr).getD 1 (.Pass ⟨0,0,0,0⟩)) _:=(@zz _ _ 3 _ _ _ _ sc_law_names.nd (by rfl) (by exact Or.inr rfl) (@we _ _ _ _ (@za _ _ _ _ _ (@zm _ _ _ _) (@za _ _ _ _ _ (@zm _ _ _ _) (@za _ _ _ _ _ (@zm _ _ _ _) (@za _ _ _ _ _ (@zm _ _ _ _) (@za _ _ _ _ _ (@zm _ _ _ _) (@za _ _ _ _ _ (@zm _ _ _ _) (@za _ _ _ _ _ (@zm _ _ _ _) (@za _ _ _ _ _ (@zm _ _ _ _) (@za _ _ _ _ _ (@zm _ _ _ _) (@za _ _ _ _ _ (@zm _ _ _ _) (@za _ _ _ _ _ (@zm _ _ _ _) (@za _ _ _ _ _ (@zm _ _ _ _) (@za _ _ _ _ _ (@zm _ _ _ _) (@zb _) (zk nofun)) (zk nofun)) (zk nofun)) (zk nofun)) (zk nofun)) (zk nofun)) (zk nofun)) (zk nofun)) (zk nofun)) (zk nofun)) (zk nofun)) (zk nofun)) (zk nofun))) (by rfl) (by first | exact Or.inl rfl | exact Or.inr rfl));have b1:PSs (cxOf CX0 P w K mg base ["cell", "many", "letters", "words", "other", "names", "k", "sign", "head"] "_law_names" (zf zr) f cdv A outer s H E).nox ((yg zr).drop 1) _:=(@oj _ _ _ _ _ _ @s1 rfl @b2);have s0:PS ((cxOf CX0 P w K mg base ["cell", "many", "letters", "words", "other", "names", "k", "sign", "head"] "_law_names" (zf zr) f cdv A outer s H E).nox) ((yg zr).getD 0 (.Pass ⟨0,0,0,0⟩)) _:=(@zz _ _ 2 _ _ _ _ sc_law_names.nd (by rfl) (by exact Or.inr rfl) (@zm _ _ _ _) (by rfl) (by first | exact Or.inl rfl | exact Or.inr rfl));have b0:PSs (cxOf CX0 P w K mg base ["cell", "many", "letters", "words", "other", "names", "k", "sign", "head"] "_law_names" (zf zr) f cdv A outer s H E).nox ((yg zr).drop 0) _:=(@oj _ _ _ _ _ _ @s0 rfl @b1);have b_:=@zlf _ _ _ @b0;refine⟨_,@b_,?_⟩;clear b_ s0 s1 s2 s3 s4 s5 s6 s7 s8 b0 b1 b2 b3 b4 b5 b6 b7 b8;rw[show start ["cell", "many", "letters", "words", "other", "names", "k", "sign", "head"] [V.int c,V.int many]=[some (V.int c),some (V.int many),none,none,none,none,none,none,none] from rfl];refine hide3 fun T hT => ?_
    simp only[zg,zh,↓reduceIte];refine⟨by decide,fun p hp => ?_⟩;have S1:Same H (upd H p (.lst (w26a.map V.str))):=Same.upd (Same.refl _) hp;have t1:upd H p (.lst (w26a.map V.str)) p=some (.lst (w26a.map V.str)):=zn
    show _<=_/\∀(p_1:Addr),upd H p (.lst (w26a.map V.str)) p_1=none->∃x,upd (upd H p (.lst (w26a.map V.str))) p_1 (.lst (w26b.map V.str)) p=some (HO.lst x)/\∃x_1,upd (upd H p (.lst (w26a.map V.str))) p_1 (.lst (w26b.map V.str)) p_1=some (HO.lst x_1)/\x.length+x_1.length<=sizeLine/\∀(p_2:Addr),upd (upd H p (.lst (w26a.map V.str))) p_1 (.lst (w26b.map V.str)) p_2=none->T _ _ (upd (upd (upd H p (.lst (w26a.map V.str))) p_1 (.lst (w26b.map V.str))) p_2 (.lst (x++x_1)))
    generalize upd H p (.lst (w26a.map V.str))=H1 at *;refine⟨by decide,fun p2 hp2 => ?_⟩;obtain⟨S2,t2⟩:=lay hp2 (.lst (w26b.map V.str));generalize upd H1 p2 (.lst (w26b.map V.str))=H2 at *;refine⟨_,S2 _ _ t1,_,t2,by decide,fun p3 hp3 => ?_⟩;obtain⟨S3,t3⟩:=lay hp3 (.lst (w26a.map V.str++w26b.map V.str));generalize upd H2 p3 (.lst (w26a.map V.str++w26b.map V.str))=H3 at *;have S03:=S1.trans (S2.trans S3);rw[hT];clear hT T S1 S2 S3 t1 t2 hp hp2 hp3;simp only[zg,zh,↓reduceIte];refine⟨by decide,rfl,ite2 (fun h => ?_) (fun h=>⟨by decide,rfl,ite2 (fun h => ?_) (fun h => ?_)⟩)⟩
    . refine⟨by omega,by omega,fun d => ?_⟩
      rw[Zw];refine qi (PvPl H3 (zf7 (c/12))) ⟨rfl,rfl⟩ ?_ ?_ ?_
      . rintro i ys H' hi ⟨rfl,rfl⟩
        rw[Za,Za,ZY];exact Zd (show i<=9 by omega) (by decide)
      . rintro i ys H' hi ⟨rfl,rfl⟩
        simp only[zg,zh,↓reduceIte];have h7:=xg (c/12+i) (show(0:Int)<26 by decide);have a7:=zy (w26_at ⟨((c/12+(i:Int)) % 26).toNat,by omega⟩);rw[Yt h7.1]at a7;refine⟨⟨by decide,by decide⟩,by decide,_,.of t3,_,a7,rfl,?_⟩;rw[j0];rfl
      . rintro ys H' ⟨rfl,rfl⟩ l hl
        have g:=poolW (c/12) hm;exact q _ l _ (S03.trans (Same.upd (Same.refl _) hl)) (S03.free hl) zn (by rw[Za,ZY]) g.1 g.2
    . refine⟨by omega,by omega,fun d => ?_⟩
      rw[Zw];have h26:=xg (c/3) (show(0:Int)<26 by decide);have hb:=zcx h26.1 h26.2;refine qi (PvPl H3 (jq (chr1 (97+(c/3 % 26).toNat)))) ⟨rfl,rfl⟩ ?_ ?_ ?_
      . rintro i ys H' hi ⟨rfl,rfl⟩
        rw[Za,Za,ZY];exact Zd (show i<=9 by omega) (by decide)
      . rintro i ys H' hi ⟨rfl,rfl⟩
        simp only[zg,zh,↓reduceIte];rw[show((i:Int)+1).toNat=i+1 by omega];refine⟨⟨by decide,by decide⟩,by decide,by decide,_,hb,by omega,by omega,?_,rfl,?_⟩
        . exact Zd (show 1*(i+1)<=9 by omega) (by decide)
        . rw[j0]
          rfl
      . rintro ys H' ⟨rfl,rfl⟩ l hl
        have g:=poolR (fi:=chr1 (97+(c/3 % 26).toNat)) (n:=many) rfl (by omega) hm;exact q _ l _ (S03.trans (Same.upd (Same.refl _) hl)) (S03.free hl) zn (by rw[Za,ZY]) g.1 g.2
    . have h468:=xg (c/468) (show(0:Int)<26 by decide)
      have h5:=xg (c/5) (show(0:Int)<4 by decide);have h7:=xg (c/7) (show(0:Int)<4 by decide);have h78:=xg (c/78) (show(0:Int)<6 by decide);refine⟨⟨by decide,by decide⟩,by decide,by decide,_,zcx h468.1 h468.2,by decide,fun p hp=>⟨by omega,by omega,?_⟩⟩;have hf:(⟨#[97+(c/468 % 26).toNat]⟩:Str).length=1:=rfl;have hfc:(⟨#[97+(c/468 % 26).toNat]⟩:Str)=chr1 (97+(c/468 % 26).toNat):=rfl;generalize (⟨#[97+(c/468 % 26).toNat]⟩:Str)=fi at *;rw[Zw];have hpn:H p=none:=S03.free hp;refine ue (PvNl [some (V.int c),some (V.int ↑many),some (V.str (Str.ofString "abcdefghijklmnopqrstuvwxyz")),some (V.ref p3),some (V.str fi),some (V.ref p)] p H (zb3 fi (c/5 % 4).toNat (c/7 % 4).toNat (c/3) (1+2*(c/78 % 6)))) ⟨S03.trans (Same.upd (Same.refl _) hp),zn,_,_,_,rfl⟩ ?_ ?_
      . rintro i σ H' hi ⟨S4,t4,v1,v2,v3,rfl⟩
        have hb:=zcx (Int.emod_nonneg (c/3+i*(1+2*(c/78 % 6))) (show(26:Int)≠0 by decide)) (YQ (c/3+i*(1+2*(c/78 % 6))) (show(0:Int)<26 by decide));simp only[zg,zh,↓reduceIte,ZO,ZN];rw[hf,Nat.one_mul,Nat.one_mul];refine⟨⟨by decide,by decide⟩,⟨by decide,by decide⟩,by decide,.inl ⟨by omega,by omega⟩,.inl ⟨by omega,by omega⟩,by decide,by decide,_,hb,⟨by decide,by decide⟩,by decide,by omega,by omega,?_,.inl ⟨rfl,_,.of t4⟩,?_,⟨by decide,by decide⟩,by decide,by omega,by omega,?_,?_,_,t4,?_,Same.upd S4 hpn,?_,_,_,_,rfl⟩
        . exact Zd (show _<=8 by omega) (by decide)
        . rw[xy,hf]
          exact Zd (show _<=20 by show 1*_+1<=20;omega) (by decide)
        . exact Zd (show _<=8 by omega) (by decide)
        . rw[xm,xy,xy,hf]
          exact Zd (show _<=30 by show 1*_+1+1*_<=30;omega) (by decide)
        . rw[Za,Za,ZY]
          exact Yn (show i<=9 by omega) (by decide)
        . rw[zn,j0]
          rfl
      . rintro σ H' ⟨S4,t4,v1,v2,v3,rfl⟩
        have g:=poolL (fi:=fi) (p:=(c/5 % 4).toNat) (q:=(c/7 % 4).toNat) (b:=c/3) (s:=c/78 % 6) (n:=many) hfc (by omega) (by omega) h78 hm;simp only[zg,zh,↓reduceIte,ZO,ZN];exact q _ p _ S4 hpn t4 (by rw[Za,ZY]) g.1 g.2
end
def HandC(H:Hp)(b:Addr)(x:HX)(d:HD):Prop:=HandAt H x d/\x.w≠b/\x.g≠b/\∀r∈x.gs,r≠b
theorem HandC.mono{H H':Hp}{b:Addr}{x:HX}{d:HD}(S:Same H H')(h:HandC H b x d):HandC H' b x d:=⟨h.1.mono S,h.2⟩
theorem HandC.upd{H:Hp}{b:Addr}{x:HX}{d:HD}{xs ys:List V}(hb:H b=some (.lst xs))(h:HandC H b x d):HandC (upd H b (.lst ys)) b x d:=by
  obtain⟨a,h1,h2,h3⟩:=h;refine⟨⟨?_,?_,?_,a.len,fun i r ns e1 e2 => ?_⟩,h1,h2,h3⟩
  . have:=a.tup
    rw[z8 (fun z=>by rw[z,hb]at this;cases this)];exact this
  . rw[z8 h1];exact a.words
  . rw[z8 h2];exact a.grid
  . rw[z8 (h3 r (Zi e1))];exact a.row i r ns e1 e2
def HandsC(H:Hp)(b:Addr)(xs:List HX)(ds:List HD):Prop:=xs.length=ds.length/\∀(i:Nat) (x:HX) (d:HD),xs[i]? = some x->ds[i]? = some d->HandC H b x d
theorem HandsC.mono{H H':Hp}{b:Addr}{xs:List HX}{ds:List HD}(S:Same H H')(h:HandsC H b xs ds):HandsC H' b xs ds:=⟨h.1,fun i x d e1 e2=>(h.2 i x d e1 e2).mono S⟩
theorem HandsC.upd{H:Hp}{b:Addr}{xs:List HX}{ds:List HD}{us ys:List V}(hb:H b=some (.lst us))(h:HandsC H b xs ds):HandsC (L2.upd H b (.lst ys)) b xs ds:=⟨h.1,fun i x d e1 e2=>(h.2 i x d e1 e2).upd hb⟩
theorem HandsC.snoc{H:Hp}{b:Addr}{xs:List HX}{ds:List HD}{x:HX}{d:HD}(h:HandsC H b xs ds)(q:HandC H b x d):HandsC H b (xs++[x]) (ds++[d]):=by
  refine⟨by simp[h.1],fun i a e e1 e2 => ?_⟩
  by_cases hi:i<xs.length
  . rw[Zg hi]at e1
    rw[Zg (by rw[<-h.1];exact hi)]at e2;exact h.2 i a e e1 e2
  . rw[Zf (ZD.mp hi)]at e1
    rw[Zf (by rw[<-h.1];exact ZD.mp hi)]at e2
    have h0:i-xs.length=0:=by
      have:=(Zc.mp e1).1;simp at this;omega
    rw[h0]at e1;rw[<-h.1,h0]at e2;simp at e1 e2;subst e1 e2;exact q
structure OkH(n:Nat)(d:HD):Prop where
  len:1<=d.words.length/\d.words.length<=3
  good:∀z∈d.words,GoodN z
  nd:d.words.Nodup
  rows:d.worths.length=d.words.length
  nums:∀r∈d.worths,r.length=n/\∀x∈r,-(10^60)<x/\x<10^60
structure vh(n:Nat)(ds:List HD):Prop where
  len:1<=ds.length/\ds.length<=3
  good:∀d∈ds,GoodN d.name
  nd:(ds.map HD.name).Nodup
  hand:∀d∈ds,OkH n d
theorem zdt{outs:List Str}{ds:List HD}(o1:1<=outs.length/\outs.length<=4)(og:∀z∈outs,GoodN z)(od:outs.Nodup)(h:vh outs.length ds):GoodHouse outs ds where
  outs1:=by omega
  outsG:=og
  outsD:=od
  hands:=by have:=h.len;omega
  handsG:=h.good
  handsD:=h.nd
  words1:=fun d hd=>by have:=(h.hand d hd).len;omega
  wordsG:=fun d hd=>(h.hand d hd).good
  wordsD:=fun d hd=>(h.hand d hd).nd
  rows:=fun d hd=>(h.hand d hd).rows
  cols:=fun d hd r hr=>((h.hand d hd).nums r hr).1
  nums:=fun d hd r hr=>((h.hand d hd).nums r hr).2
  few:=Zd (zkx (n:=ds.length) (t:=3) (fun x hx=>by
    obtain⟨d,hd,rfl⟩:=Zp.mp hx
    exact(h.hand d hd).len.2) (by rw[Za])) (Zd (Nat.pow_le_pow_right (by decide) h.len.2) (by decide))
def zey(K:Fg):Sp:=fun vs H Q _=>∃(a:Addr) (ns:List Int) (pl:Nat) (top:Int),vs=[.ref a,.int pl,.int top]/\SqL K H a (ns.map V.int)/\1<=pl/\pl<=4/\10^18<=top/\top<=10^59/\∀H' b xs ds,Same H H'->HandsL H' b xs ds->vh pl ds->Q (.ref b) H'
def PvHs(a nl b:Addr)(pl:Nat)(top mn:Int)(nms:List Str)(H:Hp)(j:Nat)(σ:L2.St)(H':Hp):Prop:=Same H H'/\∃(xs:List HX) (ds:List HD) (sp:Int) (t1 t2 t3 t4:Option V),H' b=some (.lst (xs.map fun x=>V.ref x.t))/\HandsC H' b xs ds/\ds.length=j/\ds.map HD.name=nms.take j/\(∀d∈ds,OkH pl d)/\0<=sp/\σ=[some (.ref a),some (.int pl),some (.int top),some (.int mn),some (.ref nl),some (.ref b),some (.int sp),t1,t2,t3,t4]
def PvWo(a nl b g:Addr)(pl:Nat)(top mn k sz:Int)(H:Hp)(j:Nat)(σ:L2.St)(H':Hp):Prop:=Same H H'/\∃(gs:List Addr) (rows:List (List Int)) (sp:Int) (t4:Option V),H' g=some (.lst (gs.map V.ref))/\NsAt H' gs rows/\rows.length=j/\(∀r∈gs,r≠b/\r≠g)/\(∀r∈rows,r.length=pl/\∀x∈r,-(10^60)<x/\x<10^60)/\0<=sp/\σ=[some (.ref a),some (.int pl),some (.int top),some (.int mn),some (.ref nl),some (.ref b),some (.int sp),some (.int k),some (.int sz),some (.ref g),t4]
def PvRw(H:Hp)(i:Nat)(ys:List V)(H':Hp):Prop:=H'=H/\∃r:List Int,ys=r.map V.int/\r.length=i/\∀x∈r,-(10^60)<x/\x<10^60
theorem NsAt.past{H:Hp}{g:Addr}{gs:List Addr}{rows:List (List Int)}{o:HO}(h:NsAt H gs rows)(hg:∀r∈gs,r≠g):NsAt (upd H g o) gs rows:=⟨h.len,fun i b r e1 e2=>by
  rw[z8 (hg b (Zi e1))]
  exact h.at' i b r e1 e2⟩
section
variable{P:Program}{w:World}{K:Fg}{mg:Str->Option Value}{base:Heap}{a:Ad}
theorem kz (B:Bt mg) (y7:FnAt P w K mg base "_law_cell" 1 ["script", "k"] (gd K)) (wq:FnAt P w K mg base "_law_number" 1 ["cell", "top"] bb) (vz:FnAt P w K mg base "_law_names" 1 ["cell", "many"] ai) (D:zc K mg "_law_hands" pp ["script", "places", "top"]):FnAt P w K mg base "_law_hands" 2 ["script", "places", "top"] (zey K):=by
  refine FnAt.of D sc_law_hands (fun vs H Q E h => ?_) (fun f cdv A outer s H vs Q E hr h => ?_)
  . obtain⟨a,ns,pl,top,rfl,_⟩:=h
    rfl
  . obtain⟨a,ns,pl,top,rfl,hS,pl1,pl4,tp1,tp2,q⟩:=h
    refine⟨_,(@ze _ _ _ _ _ (zz (i:=3) sc_law_hands.nd rfl (Or.inl rfl) (@zt _ _ _ _ _ _ _ _ wf (@zi _ _ _ _) (@zt _ _ _ _ _ _ _ _ xt (@zt _ _ _ _ _ _ _ _ wp (zj y7 (hr.mono (by decide)) rfl (za (pv 0) (za (@zi _ _ _ _) (@zb _)))) (@zi _ _ _ _)) (@zi _ _ _ _)))) (@ze _ _ _ _ _ (zz (i:=4) sc_law_hands.nd rfl (Or.inl rfl) (zj vz (hr.mono (by decide)) rfl (za (zj y7 (hr.mono (by decide)) rfl (za (pv 0) (za (@zi _ _ _ _) (@zb _)))) (za (@zi _ _ _ _) (@zb _))))) (@ze _ _ _ _ _ (zz (i:=5) sc_law_hands.nd rfl (Or.inl rfl) (@we _ _ _ _ (@zb _))) (@ze _ _ _ _ _ (zz (i:=6) sc_law_hands.nd rfl (Or.inr rfl) (@zi _ _ _ _)) (@ze _ _ _ _ _ (xp PassesOwn.never rfl (xz rfl B.range (za (pv 3) (@zb _))) (zw (i:=7) sc_law_hands.nd rfl (Or.inl rfl)) (@ze _ _ _ _ _ (zz (i:=8) sc_law_hands.nd rfl (Or.inl rfl) (@zt _ _ _ _ _ _ _ _ wf (@zi _ _ _ _) (@zt _ _ _ _ _ _ _ _ xt (@zt _ _ _ _ _ _ _ _ wp (zj y7 (hr.mono (by decide)) rfl (za (pv 0) (za (@zi _ _ _ _) (@zb _)))) (@z0 _ _ _ _ _ _ _ ya (@we _ _ _ _ (za (@zi _ _ _ _) (za (@zi _ _ _ _) (za (@zi _ _ _ _) (@zb _))))) (pv 7) (fun _ _=>rfl))) (@zi _ _ _ _)))) (@ze _ _ _ _ _ (zz (i:=9) sc_law_hands.nd rfl (Or.inl rfl) (@we _ _ _ _ (@zb _))) (@ze _ _ _ _ _ (xp PassesOwn.never rfl (xz rfl B.range (za (pv 8) (@zb _))) (zw (i:=10) sc_law_hands.nd rfl (Or.inl rfl)) (@ze _ _ _ _ _ (vx (y8 PySem.F.plainAttrs_list PySem.F.slot_list_append PySem.F.type_list_append ow (pv 9) (za (yj ["j"] ["script", "places", "top", "many", "called", "hands", "spot", "k", "size", "worths", "t"] rfl (xz rfl B.range (za (pv 1) (@zb _))) (fun _=>(zw (i:=0) (show(["j", "script", "places", "top", "many", "called", "hands", "spot", "k", "size", "worths", "t"]:List Str).Nodup by decide +kernel) rfl (Or.inl rfl))) (fun _=>(@yi _)) (fun _=>(zj wq (hr.mono (by decide)) rfl (za (zj y7 (hr.mono (by decide)) rfl (za (pv 1) (za (@zt _ _ _ _ _ _ _ _ wf (pv 7) (pv 0)) (@zb _)))) (za (pv 3) (@zb _))))) rfl (by decide +kernel) rfl rfl) (@zb _)))) (@zd _ _ _ (zz (i:=6) sc_law_hands.nd rfl (Or.inr rfl) (@zt _ _ _ _ _ _ _ _ wf (pv 6) (pv 1)))))) (@zd _ _ _ (vx (y8 PySem.F.plainAttrs_list PySem.F.slot_list_append PySem.F.type_list_append ow (pv 5) (@za _ _ _ _ _ (@xn _ _ _ _ _ (@za _ _ _ _ _ (@z0 _ _ _ _ _ _ _ ya (pv 4) (pv 7) (fun _ _=>rfl)) (@za _ _ _ _ _ (zj vz (hr.mono (by decide)) rfl (@za _ _ _ _ _ (zj y7 (hr.mono (by decide)) rfl (@za _ _ _ _ _ (pv 0) (@za _ _ _ _ _ (@zt _ _ _ _ _ _ _ _ wf (@zi _ _ _ _) (pv 7)) (@zb _) (zk nofun)) (zk nofun))) (@za _ _ _ _ _ (pv 8) (@zb _) (zk nofun)) (zk nofun))) (@za _ _ _ _ _ (pv 9) (@zb _) (zk nofun)) (zk nofun)) (zk nofun))) (@zb _) (zk nofun))))))))) (@zd _ _ _ (@zp _ _ _ _ (pv 5)))))))),?_⟩;rw[show start ["script", "places", "top", "many", "called", "hands", "spot", "k", "size", "worths", "t"] [V.ref a,V.int pl,V.int top]=[some (V.ref a),some (V.int pl),some (V.int top),none,none,none,none,none,none,none,none] from rfl];refine zb6 fun T hT => ?_
    simp only[zg,zh,↓reduceIte];refine⟨a,ns,0,rfl,hS,by decide,fun c0 => ?_⟩;refine⟨c0,rfl,⟨by decide,by decide⟩,by decide,a,ns,6,rfl,hS,by decide,fun c6 => ?_⟩;refine⟨c6,3,rfl,by decide,fun H1 nl nms S1 _ hn1 ln ng nd=>⟨by decide,fun b hb => ?_⟩⟩;have hbn:H b=none:=S1.free hb;rw[hT];clear hT T;refine rm fun T hT => ?_
    have h3:=xg (c0/4) (show(0:Int)<3 by decide);obtain⟨hn,ehn⟩:∃hn:Nat,1+c0/4 % 3=hn:=⟨(1+c0/4 % 3).toNat,by omega⟩;rw[ehn];simp only[zg,zh,↓reduceIte];refine⟨by omega,by omega,?_⟩;rw[Zw];refine ue (PvHs a nl b pl top hn nms H1) ⟨Same.upd (Same.refl _) hb,[],[],8,_,_,_,_,zn,⟨rfl,fun i x d e=>by simp at e⟩,rfl,by simp,(fun _ z=>nomatch z),by decide,rfl⟩ ?_ ?_
    . rintro j σ H3 hj ⟨S3,xs,ds,sp,t1,t2,t3,t4,hb3,hC,lh,hnm,hD,sp0,rfl⟩
      have SA:=S1.trans S3;refine hide3 fun T2 hT2 => ?_
      simp only[zg,zh,↓reduceIte];refine⟨a,ns,1,rfl,SA.seq hS,by decide,fun c1=>⟨by decide,fun p1 hp1 => ?_⟩⟩;obtain⟨S4,u4⟩:=lay hp1 (.lst [V.int 1,V.int 3,V.int 9]);generalize upd H3 p1 (.lst [V.int 1,V.int 3,V.int 9])=H4 at *
      have hdv:∃d:Int,atI [V.int 1,V.int 3,V.int 9] (j:Int)=some (V.int d)/\0<d/\d<1073741824:=by
        have:∀k:Fin 3,[V.int 1,V.int 3,V.int 9][k.val]? = some (V.int (([1,3,9]:List Int).getD k.val 0))/\0<([1,3,9]:List Int).getD k.val 0/\([1,3,9]:List Int).getD k.val 0<1073741824:=by decide
        have h:=this ⟨j,by omega⟩;exact⟨_,zy h.1,h.2⟩
      obtain⟨dv,edv,dv0,dv1⟩:=hdv;have hsz:=xg (c1/dv) (show(0:Int)<3 by decide);obtain⟨sz,esz⟩:∃sz:Nat,1+c1/dv % 3=sz:=⟨(1+c1/dv % 3).toNat,by omega⟩;refine⟨_,.of u4,_,edv,c1,rfl,dv,rfl,⟨dv0,dv1⟩,by decide,by decide,fun g hg => ?_⟩;rw[esz];refine⟨by omega,by omega,?_⟩;rw[Zw];have hb4:=S4 _ _ hb3;have hgb:g≠b:=fun z=>by rw[z,hb4]at hg;cases hg
      refine ue (PvWo a nl b g pl top hn j sz H4) ⟨Same.upd (Same.refl _) hg,[],[],sp,_,zn,⟨rfl,fun i b r e=>by simp at e⟩,rfl,(fun _ z=>nomatch z),(fun _ z=>nomatch z),sp0,rfl⟩ ?_ ?_
      . rintro k σ H5 hk ⟨S5,gs,rows,sp5,t5,hg5,hN,lr,hgs,hro,sp50,rfl⟩
        simp only[zg,zh,↓reduceIte];refine⟨.inl ⟨rfl,_,.of hg5⟩,by omega,by omega,fun d => ?_⟩;rw[Zw];refine qi (PvRw H5) ⟨rfl,[],rfl,rfl,fun _ z=>nomatch z⟩ ?_ ?_ ?_
        . rintro i ys H6 hi ⟨rfl,r,rfl,lr6,hr6⟩
          rw[Za,lr6];exact Zd (show i<=9 by omega) (by decide)
        . rintro i ys H6 hi ⟨rfl,r,rfl,lr6,hr6⟩
          simp only[zg,zh,↓reduceIte];refine⟨a,ns,sp5+i,rfl,(SA.trans (S4.trans S5)).seq hS,by omega,fun cv=>⟨cv,top,rfl,tp1,tp2,fun v v1 v2=>⟨rfl,r++[v],by simp,by simp[lr6],fun x hx => ?_⟩⟩⟩
          rcases ZH.mp hx with z | z
          . exact hr6 x z
          . rw[ZC.mp z]
            exact⟨by omega,by omega⟩
        . rintro ys H6 ⟨rfl,r,rfl,lr6,hr6⟩ l hl
          have hlg:l≠g:=fun z=>by rw[z,hg5]at hl;cases hl
          have hlb:l≠b:=fun z=>by rw[z,S5 _ _ hb4]at hl;cases hl
          obtain⟨S7,u7⟩:=lay hl (.lst (r.map V.int));generalize upd H6 l (.lst (r.map V.int))=H7 at *;have hgl:gs.length=k:=by rw[hN.len,lr]
          refine⟨_,S7 _ _ hg5,?_,Same.upd (S5.trans S7) hg,gs++[l],rows++[r],_,_,?_,((hN.mono S7).snoc u7).past ?_,by simp[lr],?_,?_,?_,rfl⟩
          . rw[Za,hgl]
            exact Zh (show k<9 by omega) (by decide)
          . rw[zn,Zn]
            rfl
          . intro x hx
            rcases ZH.mp hx with z | z
            . exact(hgs x z).2
            . rw[ZC.mp z];exact hlg
          . intro x hx
            rcases ZH.mp hx with z | z
            . exact hgs x z
            . rw[ZC.mp z];exact⟨hlb,hlg⟩
          . intro x hx
            rcases ZH.mp hx with z | z
            . exact hro x z
            . rw[ZC.mp z];exact⟨lr6,hr6⟩
          . omega
      . rintro σ H5 ⟨S5,gs,rows,sp5,t5,hg5,hN,lr,hgs,hro,sp50,rfl⟩
        show T2 _ _ _
        rw[hT2];clear hT2 T2;simp only[zg,zh,↓reduceIte];have S35:=S4.trans S5;have hb5:=S35 _ _ hb3;have hn5:=(S3.trans S35) _ _ hn1;have hjn:j<nms.length:=by omega
        have ejn:nms[j]? = some nms[j]:=Zb hjn;generalize nms[j]=nmj at *;refine⟨.inl ⟨rfl,_,.of hb5⟩,_,.of hn5,_,zy (j:=j) (by rw[Ze,ejn];rfl),a,ns,3+j,rfl,(SA.trans S35).seq hS,by omega,fun cw=>⟨cw,sz,rfl,by omega,fun H6 wl ws S6 hwn hw6 lw wg wd=>⟨by decide,fun t ht => ?_⟩⟩⟩;have hwb:wl≠b:=fun z=>by rw[z,hb5]at hwn;cases hwn
        have S7:Same H6 (upd H6 t (.tup [V.str nmj,V.ref wl,V.ref g])):=Same.upd (Same.refl _) ht;have u7:upd H6 t (.tup [V.str nmj,V.ref wl,V.ref g]) t=some (.tup [V.str nmj,V.ref wl,V.ref g]):=zn
        show ∃x_2,upd H6 t (.tup [V.str nmj,V.ref wl,V.ref g]) b=some (HO.lst x_2)/\x_2.length<sizeLine/\PvHs a nl b pl top (↑hn) nms H1 (j+1) _ (upd (upd H6 t (.tup [V.str nmj,V.ref wl,V.ref g])) b (HO.lst (x_2++[V.ref t])))
        generalize upd H6 t (.tup [V.str nmj,V.ref wl,V.ref g])=H7 at *;have S57:=S6.trans S7;have S37:=S35.trans S57;have hb7:=S57 _ _ hb5;have hC7:=hC.mono S37;have hN7:=hN.mono S57;have new:HandC H7 b ⟨t,wl,g,gs⟩ ⟨nmj,ws,rows⟩:=⟨⟨u7,S7 _ _ hw6,S57 _ _ hg5,hN.len,fun i r ns e1 e2=>hN7.at' i r ns e1 e2⟩,hwb,hgb,fun r hr'=>(hgs r hr').1⟩;refine⟨_,hb7,?_,Same.upd (S3.trans S37) hb,xs++[⟨t,wl,g,gs⟩],ds++[⟨nmj,ws,rows⟩],_,_,_,_,_,by rw[zn,Zn];rfl,(hC7.snoc new).upd hb7,by simp[lh],?_,fun d hd => ?_,sp50,rfl⟩
        . rw[Za,hC.1,lh]
          exact Zh (show j<9 by omega) (by decide)
        . rw[Zn,hnm,Zq,ejn]
          rfl
        . rcases ZH.mp hd with z | z
          . exact hD d z
          . rw[ZC.mp z]
            exact⟨by show 1<=ws.length/\ws.length<=_;omega,wg,wd,by show rows.length=ws.length;omega,hro⟩
    . rintro σ H3 ⟨S3,xs,ds,sp,t1,t2,t3,t4,hb3,hC,lh,hnm,hD,sp0,rfl⟩
      show T _ _ _
      rw[hT];simp only[zg,zh,↓reduceIte];refine q H3 b xs ds (S1.trans S3) ⟨hb3,hC.1,fun i x d e1 e2=>(hC.2 i x d e1 e2).1⟩ ⟨by omega,fun d hd => ?_,?_,hD⟩
      . exact ng _ ((YU hn nms).subset (by rw[<-hnm];exact Zp.mpr ⟨d,hd,rfl⟩))
      . rw[hnm]
        exact nd.sublist (YU _ _)
end
def zaj:Sp:=fun vs H Q _=>∃(b:Addr) (xs:List HX) (ds:List HD),vs=[.ref b]/\HandsL H b xs ds/\ds.length<=4/\(∀d∈ds,d.words.length<=8)/\∀H' l as,Same H H'->RwsAt H' l as (yl (ds.map HD.words))->Q (.ref l) H'
def PvRo(b:Addr)(H:Hp)(ds:List HD)(i:Nat)(σ:L2.St)(H':Hp):Prop:=Same H H'/\∃(l:Addr) (as:List Addr) (v1 v2 v3 v4:Option V),RwsAt H' l as (yl ((ds.map HD.words).take i))/\σ=[some (.ref b),some (.ref l),v1,v2,v3,v4]
def PvGm(b l h p:Addr)(rs:List (List Str))(ws:List Str)(H:Hp)(m:Nat)(σ:L2.St)(H':Hp):Prop:=Same H H'/\∃(as':List Addr) (v1 v2:Option V),H' p=some (.lst (as'.map V.ref))/\TupsAt H' as' (x5 (rs.take m) ws)/\σ=[some (.ref b),some (.ref l),some (.ref h),some (.ref p),v1,v2]
def PvGi(b l h p r:Addr)(dn:List (List Str))(row ws:List Str)(H:Hp)(k:Nat)(σ:L2.St)(H':Hp):Prop:=Same H H'/\∃(as':List Addr) (v2:Option V),H' p=some (.lst (as'.map V.ref))/\TupsAt H' as' (dn++x9 row (ws.take k))/\σ=[some (.ref b),some (.ref l),some (.ref h),some (.ref p),some (.ref r),v2]
section
variable{P:Program}{w:World}{K:Fg}{mg:Str->Option Value}{base:Heap}{a:Ad}
theorem qh (D:zc K mg "_law_rows" ma ["hands"]):FnAt P w K mg base "_law_rows" 1 ["hands"] zaj:=by
  refine FnAt.of D sc_law_rows (fun vs H Q E h => ?_) (fun f cdv A outer s H vs Q E hr h => ?_)
  . obtain⟨b,xs,ds,rfl,_⟩:=h
    rfl
  . obtain⟨b,xs,ds,rfl,hH,h4,h8,q⟩:=h
    refine⟨_,(@ze _ _ _ _ _ (@zz _ _ 1 _ _ _ _ sc_law_rows.nd rfl (Or.inl rfl) (@we _ _ _ _ (@za _ _ _ _ _ (@xn _ _ _ _ _ (@zb _)) (@zb _) (zk nofun))) rfl (Or.inl rfl)) (@ze _ _ _ _ _ (xp PassesOwn.never rfl (@ye _ _ _ _ (pv 0)) (zw (i:=2) sc_law_rows.nd rfl (Or.inl rfl)) (@ze _ _ _ _ _ (zz (i:=3) sc_law_rows.nd rfl (Or.inl rfl) (@we _ _ _ _ (@zb _))) (@ze _ _ _ _ _ (xp PassesOwn.never rfl (@ye _ _ _ _ (pv 1)) (zw (i:=4) sc_law_rows.nd rfl (Or.inl rfl)) (@zd _ _ _ (xp PassesOwn.never rfl (@ye _ _ _ _ (@z0 _ _ _ _ _ _ _ yq (pv 2) (@zi _ _ _ _) (fun _ _=>rfl))) (zw (i:=5) sc_law_rows.nd rfl (Or.inl rfl)) (@zd _ _ _ (vx (y8 PySem.F.plainAttrs_list PySem.F.slot_list_append PySem.F.type_list_append ow (pv 3) (za (@zt _ _ _ _ _ _ _ _ zen (pv 4) (@xn _ _ _ _ _ (za (pv 5) (@zb _)))) (@zb _)))))))) (@zd _ _ _ (zz (i:=1) sc_law_rows.nd rfl (Or.inl rfl) (pv 3)))))) (@zd _ _ _ (@zp _ _ _ _ (pv 1))))),?_⟩;rw[show start ["hands", "rows", "hand", "longer_ones", "row", "word"] [V.ref b]=[some (V.ref b),none,none,none,none,none] from rfl];simp only[zg,zh,↓reduceIte];refine⟨by decide,fun e he => ?_⟩;obtain⟨S1,t1⟩:=lay he (.tup []);generalize upd H e (.tup [])=H1 at *;refine⟨by decide,fun l hl => ?_⟩;obtain⟨S2,t2⟩:=lay hl (.lst [V.ref e]);generalize upd H1 l (.lst [V.ref e])=H2 at *;have hH2:=hH.mono (S1.trans S2);refine⟨⟨_,.of hH2.at'⟩,?_⟩;refine wn (xs:=xs.map fun x=>V.ref x.t) (PvRo b H2 ds) ⟨Same.refl _,l,[e],_,_,_,_,⟨t2,TupsAt.one (S2 _ _ t1)⟩,rfl⟩ ?_ ?_ ?_
    . rintro i σ H3 hi ⟨S3,l3,as,v1,v2,v3,v4,hR,rfl⟩
      exact .of (S3 _ _ hH2.at')
    . rintro i x σ H3 hx ⟨S3,l3,as,v1,v2,v3,v4,hR,rfl⟩
      obtain⟨h,hh,rfl⟩:=yu hx;have hi:i<ds.length:=by have:=(Zc.mp hh).1;have:=hH.len;omega
      have ed:ds[i]? = some ds[i]:=Zb hi;have hA:=(hH2.mono S3).hand i h _ hh ed;have w8:=h8 _ (Zl hi);have ew:(ds.map HD.words)[i]? = some ds[i].words:=by rw[Ze,ed];rfl
      have hwid:=ef (ds.map HD.words) i (by rw[Za];omega)
      have few:=ju (wss:=ds.map HD.words) (by rw[Za];exact h4) (fun ws hws=>by
        obtain⟨d,hd,rfl⟩:=Zp.mp hws
        exact h8 d hd) i (by rw[Za];omega)
      simp only[zg,zh,↓reduceIte];refine⟨by decide,fun p hp => ?_⟩;obtain⟨S4,t4⟩:=lay hp (.lst []);generalize upd H3 p (.lst [])=H4 at *;have hR4:=hR.mono S4;generalize hrs:yl ((ds.map HD.words).take i)=rs at *;refine⟨⟨_,.of hR4.lst⟩,?_⟩;refine wn (xs:=as.map V.ref) (PvGm b l3 h.t p rs ds[i].words H3) ⟨S4,[],_,_,t4,TupsAt.nil,rfl⟩ ?_ ?_ ?_
      . rintro m σ H5 hm ⟨S5,as',v1,v2,hP,hG,rfl⟩
        exact .of (S5 _ _ hR.lst)
      . rintro m x σ H5 hx ⟨S5,as',v1,v2,hP,hG,rfl⟩
        obtain⟨r,er,rfl⟩:=m7 hx;have hm:m<rs.length:=by have:=(Zc.mp er).1;have:=hR.tups.len;omega
        have er2:rs[m]? = some rs[m]:=Zb hm;have hr5:=(hR.mono S5).tups.at' m r _ er er2;have lr5:=hwid _ (Zl hm);have h15:=S5 _ _ hA.tup;have h25:=S5 _ _ hA.words;simp only[zg,zh,↓reduceIte];refine⟨_,.of h15,_,zy (j:=1) rfl,_,rfl,⟨_,.of h25⟩,?_⟩;refine wn (xs:=ds[i].words.map V.str) (PvGi b l3 h.t p r (x5 (rs.take m) ds[i].words) rs[m] ds[i].words H3) ⟨S5,as',_,hP,by rw[YI,x9,Yi,ZP];exact hG,rfl⟩ ?_ ?_ ?_
        . rintro k σ H6 hk ⟨S6,bs,v3,hP6,t6,rfl⟩
          exact .of (S6 _ _ hA.words)
        . rintro k y σ H6 hy ⟨S6,bs,v3,hP6,t6,rfl⟩
          obtain⟨z,ez,rfl⟩:=yu hy;have hr6:=(hR.mono S6).tups.at' m r _ er er2;simp only[zg,zh,↓reduceIte];refine⟨.inl ⟨rfl,_,.of hP6⟩,by decide,fun u hu => ?_⟩;obtain⟨S7,t7⟩:=lay hu (.tup [V.str z]);generalize upd H6 u (.tup [V.str z])=H7 at *;refine⟨_,S7 _ _ hr6,_,t7,?_,fun H8 w S8 hw => ?_⟩
          . rw[Za,lr5]
            exact Zd (show i+1<=9 by omega) (by decide)
          . have S68:=S7.trans S8
            have hP8:=S68 _ _ hP6;have hk:k<ds[i].words.length:=(Zc.mp ez).1;refine⟨_,hP8,?_,Same.upd (S6.trans S68) hp,bs++[w],_,by rw[zn,Zn];rfl,TupsAt.past hP8 ?_,rfl⟩
            . rw[Za,t6.len,Zo,oh,lm,Zj,Zj]
              have:min m rs.length*ds[i].words.length<=4096*8:=YM (by omega) w8;exact Yn (show _<=4096*8+8 by omega) (by decide)
            . rw[Zq,ez]
              show TupsAt H8 (bs++[w]) (_++x9 _ (ds[i].words.take k++[z]))
              rw[x9,Zn,<-ZV];exact(t6.mono S68).append (TupsAt.one (by rw[hw];simp))
        . rintro σ H6 ⟨S6,bs,v3,hP6,t6,rfl⟩
          refine⟨S6,bs,_,_,hP6,?_,rfl⟩;rw[Za,Zt]at t6;rw[Zq,er2]
          show TupsAt _ _ (x5 (rs.take m++[rs[m]]) _)
          rw[br];exact t6
      . rintro σ H5 ⟨S5,as',v1,v2,hP,hG,rfl⟩
        simp only[zg,zh,↓reduceIte];rw[Za,hR.tups.len,Zt]at hG;refine⟨S3.trans S5,p,as',_,_,_,_,⟨hP,?_⟩,rfl⟩;rw[uv ew,hrs];exact hG
    . rintro σ H3 ⟨S3,l3,as,v1,v2,v3,v4,hR,rfl⟩
      simp only[zg,zh,↓reduceIte];rw[Za,hH.len,ZG (by rw[Za];omega)]at hR;exact q H3 l3 as (S1.trans (S2.trans S3)) hR
end
theorem za0(y p:Str):∀{ps:List Str},ps≠[]->Str.join y (ps++[p])=Str.join y ps++y++p
  | [],h=>absurd rfl h
  | [q],_=>rfl
  | q::r::ps,_=>by
    show q++y++Str.join y (r::ps++[p])=q++y++Str.join y (r::ps)++y++p
    rw[za0 y p (List.cons_ne_nil _ _)];simp only[Str.append_assoc]
theorem GoodN.plain{z:Str}(h:GoodN z):uf z:=h.2.2
structure SayOk(x:Str×List Int):Prop where
  good:GoodN x.1
  few:x.2.length<=4
  nums:∀n∈x.2,-(10^60)<n/\n<10^60
theorem SayOk.mem{x:Str×List Int}(h:SayOk x):∀p∈sayL x.1 x.2,p.length<=62:=fun p hp=>by
  rcases ZK.mp hp with rfl | hp
  . have:=h.good.2.1;omega
  . obtain⟨n,hn,rfl⟩:=Zp.mp hp
    have:=h.nums n hn;exact j1 (by omega) (by omega)
theorem SayOk.join{x:Str×List Int}(h:SayOk x):JoinOk (Str.ofString " ") (sayL x.1 x.2)=true/\(sayT x).length<=325 :=
  vn (n:=5) h.mem (by rw[sayL,ZL,Za];have:=h.few;omega) (by decide +kernel) (by decide)
theorem OkH.say{n:Nat}{d:HD}(h:OkH n d)(hn:n<=4):∀x∈wb d,SayOk x:=fun x hx=>by
  obtain⟨h1,h2⟩:=YC hx;exact⟨h.good _ h1,by rw[(h.nums _ h2).1];exact hn,(h.nums _ h2).2⟩
theorem OkH.saysLen{n:Nat}{d:HD}(h:OkH n d):(wb d).length=d.words.length:=by
  rw[wb,List.length_zip,h.rows,YZ]
def oo(d:HD)(t:Nat):Str:=Str.join (Str.ofString " = ") (d.name::((wb d).take t).map sayT)
theorem OkH.to{n:Nat}{d:HD}(h:OkH n d)(hn:n<=4)(hd:GoodN d.name)(t:Nat):(oo d t).length<=1312:=by
  refine(vn (B:=325) (n:=4) (fun p hp => ?_) ?_ (by decide +kernel) (by decide)).2
  . rcases ZK.mp hp with rfl | hp
    . have:=hd.2.1;omega
    . obtain⟨x,hx,rfl⟩:=Zp.mp hp
      exact(h.say hn x (List.mem_of_mem_take hx)).join.2
  . rw[ZL,Za,Zj,h.saysLen]
    have:=h.len.2;omega
theorem ce(d:HD):oo d (wb d).length=xq d:=by rw[oo,Zt,xq]
theorem zd1{d:HD}{t:Nat}{x:Str×List Int}(h:(wb d)[t]? = some x):oo d (t+1)=oo d t++Str.ofString " = " ++ sayT x:=by
  rw[oo,oo,Zq,h,Zn];exact za0 _ _ (List.cons_ne_nil _ _)
theorem OkH.tx{n:Nat}{d:HD}(h:OkH n d)(hn:n<=4)(hd:GoodN d.name):(xq d).length<=1312:=by
  rw[<-ce];exact h.to hn hd _
theorem im{outs:List Str}(og:∀z∈outs,GoodN z)(o4:outs.length<=4):JoinOk (Str.ofString " ") outs=true/\(Str.join (Str.ofString " ") outs).length<=44 :=
  vn (B:=8) (n:=4) (fun p hp=>(og p hp).2.1) o4 (by decide +kernel) (by decide)
theorem jx{outs:List Str}{ds:List HD}(og:∀z∈outs,GoodN z)(o4:outs.length<=4)(h:vh outs.length ds):JoinOk (Str.ofString " / ") (Str.join (Str.ofString " ") outs::ds.map xq)=true/\(vy outs ds).length<=5260:=by
  refine vn (B:=1312) (n:=4) (fun p hp => ?_) ?_ (by decide +kernel) (by decide)
  . rcases ZK.mp hp with rfl | hp
    . have:=(im og o4).2;omega
    . obtain⟨d,hd,rfl⟩:=Zp.mp hp
      exact(h.hand d hd).tx o4 (h.good d hd)
  . rw[ZL,Za]
    have:=h.len.2;omega
theorem zk5{outs:List Str}{ds:List HD}(og:∀z∈outs,GoodN z)(o4:outs.length<=4)(h:vh outs.length ds):cu outs ds where
  plain:=fun x hx=>(og x hx).plain
  name:=fun d hd=>(h.good d hd).plain
  says:=fun d hd x hx=>by
    have s:=(h.hand d hd).say o4 x hx;exact⟨s.good.plain,by have:=s.few;omega,s.nums,Zd s.join.2 (by decide)⟩
  len:=fun d hd=>Zd ((h.hand d hd).tx o4 (h.good d hd)) (by decide)
  olen:=Zd (im og o4).2 (by decide)
  all:=Zd (jx og o4 h).2 (by decide)
theorem zfp(r:Str):Str.ofString "house " ++ r=yp "house" r:=by
  rw[yp,show("house" : Str)++Str.ofString " " = Str.ofString "house " from by decide +kernel]
def cm:Sp:=fun vs H Q _=>∃(o b:Addr) (outs:List Str) (xs:List HX) (ds:List HD),vs=[.ref o,.ref b]/\H o=some (.lst (outs.map V.str))/\HandsL H b xs ds/\(∀z∈outs,GoodN z)/\outs.length<=4/\vh outs.length ds/\∀H',Same H H'->Q (.str (yp "house" (vy outs ds))) H'
def PvHr(o b p:Addr)(outs:List Str)(ds:List HD)(H:Hp)(i:Nat)(σ:L2.St)(H':Hp):Prop:=Same H H'/\∃v1 v2 v3:Option V,H' p=some (.lst ((Str.join (Str.ofString " ") outs::(ds.take i).map xq).map V.str))/\σ=[some (.ref o),some (.ref b),some (.ref p),v1,v2,v3]
def PvTt(o b p h:Addr)(d:HD)(H:Hp)(i:Nat)(σ:L2.St)(H':Hp):Prop:=Same H H'/\∃v3:Option V,σ=[some (.ref o),some (.ref b),some (.ref p),some (.ref h),some (.str (oo d i)),v3]
def PvSt(H:Hp)(ns:List Int)(i:Nat)(ys:List V)(H':Hp):Prop:=H'=H/\ys=((ns.take i).map intS).map V.str
section
variable{P:Program}{w:World}{K:Fg}{mg:Str->Option Value}{base:Heap}{a:Ad}
theorem wy (B:Bt mg) (D:zc K mg "_law_house_row" v6 ["outcomes", "hands"]):FnAt P w K mg base "_law_house_row" 1 ["outcomes", "hands"] cm:=by
  refine FnAt.of D sc_law_house_row (fun vs H Q E h => ?_) (fun f cdv A outer s H vs Q E hr h => ?_)
  . obtain⟨o,b,outs,xs,ds,rfl,_⟩:=h
    rfl
  . obtain⟨o,b,outs,xs,ds,rfl,ho,hH,og,o4,hOk,q⟩:=h
    refine⟨_,(@ze _ _ _ _ _ (zz (i:=2) sc_law_house_row.nd rfl (Or.inl rfl) (@we _ _ _ _ (za (y8 PySem.F.plainAttrs_str PySem.F.slot_str_join PySem.F.type_str_join mi (@zm _ _ _ _) (za (pv 0) (@zb _))) (@zb _)))) (@ze _ _ _ _ _ (xp PassesOwn.never rfl (@ye _ _ _ _ (pv 1)) (zw (i:=3) sc_law_house_row.nd rfl (Or.inl rfl)) (@ze _ _ _ _ _ (zz (i:=4) sc_law_house_row.nd rfl (Or.inl rfl) (@z0 _ _ _ _ _ _ _ yq (pv 3) (@zi _ _ _ _) (fun _ _=>rfl))) (@ze _ _ _ _ _ (xp PassesOwn.never rfl (xz rfl B.range (za (zx yf rfl B.len xi (za (@z0 _ _ _ _ _ _ _ yq (pv 3) (@zi _ _ _ _) (fun _ _=>rfl)) (@zb _))) (@zb _))) (zw (i:=5) sc_law_house_row.nd rfl (Or.inl rfl)) (@zd _ _ _ (zz (i:=4) sc_law_house_row.nd rfl (Or.inl rfl) (@zt _ _ _ _ _ _ _ _ xf (@zt _ _ _ _ _ _ _ _ xf (pv 4) (@zm _ _ _ _)) (y8 PySem.F.plainAttrs_str PySem.F.slot_str_join PySem.F.type_str_join mi (@zm _ _ _ _) (za (@zt _ _ _ _ _ _ _ _ zcp (@we _ _ _ _ (za (@z0 _ _ _ _ _ _ _ ya (@z0 _ _ _ _ _ _ _ yq (pv 3) (@zi _ _ _ _) (fun _ _=>rfl)) (pv 5) (fun _ _=>rfl)) (@zb _))) (yj ["one"] ["outcomes", "hands", "some", "hand", "text", "t"] rfl (@ye _ _ _ _ (@z0 _ _ _ _ _ _ _ ya (@z0 _ _ _ _ _ _ _ yq (pv 3) (@zi _ _ _ _) (fun _ _=>rfl)) (pv 5) (fun _ _=>rfl))) (fun _=>(zw (i:=0) (show(["one", "outcomes", "hands", "some", "hand", "text", "t"]:List Str).Nodup by decide +kernel) rfl (Or.inl rfl))) (fun _=>(@yi _)) (fun _=>(y4 l7 rfl B.str mv (za (pv 0) (@zb _)))) rfl (by decide +kernel) rfl rfl)) (@zb _))))))) (@zd _ _ _ (vx (y8 PySem.F.plainAttrs_list PySem.F.slot_list_append PySem.F.type_list_append ow (pv 2) (za (pv 4) (@zb _)))))))) (@zd _ _ _ (@zp _ _ _ _ (@zt _ _ _ _ _ _ _ _ xf (@zm _ _ _ _) (y8 PySem.F.plainAttrs_str PySem.F.slot_str_join PySem.F.type_str_join mi (@zm _ _ _ _) (za (pv 2) (@zb _)))))))),?_⟩;rw[show start ["outcomes", "hands", "some", "hand", "text", "t"] [V.ref o,V.ref b]=[some (V.ref o),some (V.ref b),none,none,none,none] from rfl];simp only[zg,zh,↓reduceIte];refine⟨rfl,outs,.of ho,(im og o4).1,by decide,fun p hp => ?_⟩;rw[vb];obtain⟨S1,u1⟩:=lay hp (.lst [V.str (Str.join (Str.ofString " ") outs)]);generalize upd H p (.lst [V.str (Str.join (Str.ofString " ") outs)])=H1 at *;refine⟨⟨_,.of (S1 _ _ hH.at')⟩,?_⟩;refine wn (xs:=xs.map fun x=>V.ref x.t) (PvHr o b p outs ds H) ⟨S1,_,_,_,u1,rfl⟩ ?_ ?_ ?_
    . rintro i σ H3 hi ⟨S3,v1,v2,v3,hP,rfl⟩
      exact .of (S3 _ _ hH.at')
    . rintro i x σ H3 hx ⟨S3,v1,v2,v3,hP,rfl⟩
      obtain⟨h,hh,rfl⟩:=yu hx;have hi:i<ds.length:=by have:=(Zc.mp hh).1;have:=hH.len;omega
      have ed:ds[i]? = some ds[i]:=Zb hi;have hm:=Zl hi;generalize ds[i]=d at *;have hA:=(hH.mono S3).hand i h _ hh ed;have hD:=hOk.hand d hm;have hN:=hOk.good d hm;have wl:=hD.len;refine hide2 fun T hT => ?_
      simp only[zg,zh,↓reduceIte];refine⟨_,.of hA.tup,_,zy (j:=0) rfl,_,.of hA.tup,_,zy (j:=1) rfl,_,rfl,_,.inl (.of hA.words),?_⟩;rw[Za];refine⟨by omega,by omega,?_⟩;rw[Zw];refine ue (PvTt o b p h.t d H3) ⟨Same.refl _,_,rfl⟩ ?_ ?_
      . rintro t σ H4 ht ⟨S4,v3,rfl⟩
        have hts:t<(wb d).length:=by rw[hD.saysLen];exact ht
        have hx:(wb d)[t]? = some (wb d)[t]:=Zb hts;have hsm:=Zl hts;generalize (wb d)[t]=x at *;obtain⟨e1,e2⟩:=List.getElem?_zip_eq_some.mp hx;have so:=hD.say o4 x hsm;have hA4:=hA.mono S4;obtain⟨r,er⟩:∃r,h.gs[t]? = some r:=⟨h.gs[t]'(by rw[hA.len,hD.rows];exact ht),by simp⟩;have hrow:=hA4.row t r _ er e2;simp only[zg,zh,↓reduceIte];have l1:=hD.to o4 hN t;have l2:=hD.to o4 hN (t+1);refine⟨Zd (Nat.add_le_add_right l1 _) (by decide +kernel),rfl,_,.of hA4.tup,_,zy (j:=1) rfl,_,rfl,_,.of hA4.words,V.str x.1,zy (j:=t) (by rw[Ze,e1];rfl),by decide,fun p2 hp2 => ?_⟩;obtain⟨S5,u5⟩:=lay hp2 (.lst [V.str x.1]);generalize upd H4 p2 (.lst [V.str x.1])=H5 at *;refine⟨_,.of (S5 _ _ hA4.tup),_,zy (j:=2) rfl,_,rfl,_,.of (S5 _ _ hA4.grid),V.ref r,zy (j:=t) (by rw[Ze,er];rfl),_,rfl,⟨_,.of (S5 _ _ hrow)⟩,fun dd => ?_⟩;refine ym (xs:=x.2.map V.int) (PvSt H5 x.2) ⟨rfl,rfl⟩ ?_ ?_ ?_
        . rintro k ys H6 hk ⟨rfl,rfl⟩
          refine⟨?_,.of (S5 _ _ hrow)⟩;rw[Za,Za,Zj];have:=so.few;exact Zd (show _<=9 by omega) (by decide)
        . rintro k y ys H6 hy ⟨rfl,rfl⟩
          obtain⟨n,hn,rfl⟩:=dc hy;have hb:=so.nums n (Zi hn);simp only[zg,zh,↓reduceIte];refine⟨by omega,by omega,rfl,?_⟩;rw[Zq,hn,Zn,Zn];rfl
        . rintro ys H6 ⟨rfl,rfl⟩ l hl
          rw[Za,Zt];obtain⟨S7,u7⟩:=lay hl (.lst ((x.2.map intS).map V.str));generalize upd H6 l (.lst ((x.2.map intS).map V.str))=H7 at *;have sj:=so.join;refine⟨_,S7 _ _ u5,_,u7,?_,fun p8 hp8=>⟨sayL x.1 x.2,.of zn,sj.1,?_,S4.trans (S5.trans (S7.trans (Same.upd (Same.refl _) hp8))),some (V.int t),?_⟩⟩
          . rw[Za,Za]
            have:=so.few;exact Zd (show _<=9 by show 1+_<=9;omega) (by decide)
          . rw[vb,show Str.join (Str.ofString " ") (sayL x.1 x.2)=sayT x from rfl,xm]
            exact Zd (Nat.add_le_add (Nat.add_le_add_right l1 _) sj.2) (by decide +kernel)
          . rw[vb,zd1 hx]
            rfl
      . rintro σ H4 ⟨S4,v3,rfl⟩
        show T _ _ _
        rw[hT];clear hT T;simp only[zg,zh,↓reduceIte];have hP4:=S4 _ _ hP;refine⟨.inl ⟨rfl,_,.of hP4⟩,_,hP4,?_,Same.upd (S3.trans S4) hp,_,_,_,?_,rfl⟩
        . rw[Za,ZL,Za,Zj]
          exact Yn (show _<=9 by have:=hOk.len;omega) (by decide)
        . rw[zn,Zq,ed,<-hD.saysLen,ce]
          simp
    . rintro σ H3 ⟨S3,v1,v2,v3,hP,rfl⟩
      simp only[zg,zh,↓reduceIte];rw[Za,hH.len,Zt]at hP;have hj:=jx og o4 hOk;refine⟨rfl,_,.of hP,hj.1,?_,?_⟩
      . rw[vb]
        exact Zd (Yk hj.2 _) (by decide +kernel)
      . rw[vb,zfp]
        exact q _ S3
end
def zbe:Sp:=fun vs H Q _=>∃(x:HX) (d:HD) (z:Str),vs=[.ref x.t,.str z]/\HandAt H x d/\z∈d.words/\d.worths.length=d.words.length/\∀(r:Addr) (i:Nat),x.gs[i]? = some r->H r=some (.lst ((xj d z).map V.int))->Q (.ref r) H
def mixP(zs s:List Int)(j:Nat):List Int:=zs.take j++s.drop j
theorem zlh{zs s:List Int}{j:Nat}(hz:j<=zs.length):(mixP zs s j)[j]? = s[j]? := by
  rw[mixP,Zf (by rw[Zj];omega),Zj,Nat.min_eq_left hz,YF,ZQ,Nat.add_zero]
theorem zl9{zs s:List Int}{j:Nat}(hz:j<=zs.length)(hs:zs.length=s.length):(mixP zs s j).length=s.length:=by
  rw[mixP,Zo,Zj,ZR];omega
theorem zlk{zs s:List Int}{j:Nat}{v:Int}(hs:j<s.length)(hv:zs[j]? = some v):(mixP zs s j).set j v=mixP zs s (j+1):=by
  have hz:=(Zc.mp hv).1;have lt:(zs.take j).length=j:=by rw[Zj];omega
  rw[mixP,mixP,List.set_append_right _ _ (by omega),lt,YF,Yx hs,YR,Zq,hv];simp
def zaz(K:Fg):Sp:=fun vs H Q _=>∃(b l m r:Addr) (xs:List HX) (outs:List Str) (ds:List HD) (ws hc:List Int) (row:List Str),vs=[.ref b,.ref l,.ref m,.ref r]/\HandsL H b xs ds/\GoodHouse outs ds/\H l=some (.lst (ws.map V.int))/\ws.length=ds.length/\(∀i∈ws,wj i/\1<=i)/\H m=some (.lst (hc.map V.int))/\hc.length=outs.length/\SqT K H r (row.map V.str)/\jy ds row /\
  ∀H' t,Same H H'->H' t=some (.lst ((yt hc (yw ds ws row ds.length)).map V.int))->Q (.ref t) H'
def PvLS(b l m r t:Addr)(ds:List HD)(ws hc:List Int)(row:List Str)(H:Hp)(i:Nat)(σ:L2.St)(H':Hp):Prop:=Same H H'/\H' t=some (.lst ((yt hc (yw ds ws row i)).map V.int))/\∃v1 v2 v3,σ=[some (.ref b),some (.ref l),some (.ref m),some (.ref r),some (.ref t),v1,v2,v3]
def PvLS2(b l m r t rr:Addr)(k:Nat)(sc pt:List Int)(H H2:Hp)(j:Nat)(σ:L2.St)(H':Hp):Prop:=Same H H'/\(∀c o,c≠t->H2 c=some o->H' c=some o)/\H' t=some (.lst ((mixP (List.zipWith (· + ·) sc pt) sc j).map V.int))/\∃v,σ=[some (.ref b),some (.ref l),some (.ref m),some (.ref r),some (.ref t),some (.int k),some (.ref rr),v]
section
variable{P:Program}{w:World}{K:Fg}{mg:Str->Option Value}{base:Heap}{a:Ad}
theorem mq (D:zc K mg "_law_worths" qf ["hand", "word"]):FnAt P w K mg base "_law_worths" 1 ["hand", "word"] zbe:=by
  refine FnAt.of D zbo (fun vs H Q E h => ?_) (fun f cdv A outer s H vs Q E hr h => ?_)
  . obtain⟨x,d,z,rfl,_⟩:=h
    rfl
  . obtain⟨x,d,z,rfl,hx,hz,hl,q⟩:=h
    refine⟨_,(@zd _ _ _ (@zp _ _ _ _ (@z0 _ _ _ _ _ _ _ ya (@z0 _ _ _ _ _ _ _ yq (pv 0) (@zi _ _ _ _) (fun _ _=>rfl)) (y8 PySem.F.plainAttrs_list PySem.F.slot_list_index PySem.F.type_list_index zbg (@z0 _ _ _ _ _ _ _ yq (pv 0) (@zi _ _ _ _) (fun _ _=>rfl)) (za (pv 1) (@zb _))) (fun _ _=>rfl)))),?_⟩;rw[show start ["hand", "word"] [V.ref x.t,V.str z]=[some (V.ref x.t),some (V.str z)] from rfl];simp only[zg,zh,↓reduceIte];have hi:=Zz.mpr hz;have hr:d.words.idxOf z<d.worths.length:=by rw[hl];exact hi
    obtain⟨r,er⟩:∃r,x.gs[d.words.idxOf z]? = some r:=⟨x.gs[d.words.idxOf z]'(by rw[hx.len];exact hr),by simp⟩;have hrow:=hx.row _ r _ er (Zb hr);refine⟨_,.of hx.tup,_,zy (j:=2) rfl,_,.of hx.tup,_,zy (j:=1) rfl,.inl ⟨rfl,_,.of hx.words⟩,x.w,rfl,_,.of hx.words,_,za7 hz,x.g,rfl,_,.of hx.grid,_,zy (v:=V.ref r) (by rw[Ze,er];rfl),q r _ er ?_⟩;rw[xj,Zk,Zb hr];exact hrow
theorem m4 (B:Bt mg) (mq:FnAt P w K mg base "_law_worths" 1 ["hand", "word"] zbe) (D:zc K mg "_law_scores" rb ["hands", "weights", "handicaps", "row"]):FnAt P w K mg base "_law_scores" 2 ["hands", "weights", "handicaps", "row"] (zaz K):=by
  refine FnAt.of D sc_law_scores (fun vs H Q E h => ?_) (fun f cdv A outer s H vs Q E hr h => ?_)
  . obtain⟨b,l,m,r,xs,outs,ds,ws,hc,row,rfl,_⟩:=h
    rfl
  . obtain⟨b,l,m,r,xs,outs,ds,ws,hc,row,rfl,hH,G,hl,lw,gw,hm,lh,hrow,R,q⟩:=h
    refine⟨_,(@ze _ _ _ _ _ (zz (i:=4) sc_law_scores.nd rfl (Or.inl rfl) (y4 io rfl B.list ml (za (pv 2) (@zb _)))) (@ze _ _ _ _ _ (xp PassesOwn.never rfl (xz rfl B.range (za (zx yf rfl B.len xi (za (pv 0) (@zb _))) (@zb _))) (zw (i:=5) sc_law_scores.nd rfl (Or.inl rfl)) (@ze _ _ _ _ _ (zz (i:=6) sc_law_scores.nd rfl (Or.inl rfl) (zj mq (hr.mono (by decide)) rfl (za (@z0 _ _ _ _ _ _ _ ya (pv 0) (pv 5) (fun _ _=>rfl)) (za (@z0 _ _ _ _ _ _ _ yq (pv 3) (pv 5) (fun _ _=>rfl)) (@zb _))))) (@zd _ _ _ (xp PassesOwn.never rfl (xz rfl B.range (za (zx yf rfl B.len xi (za (pv 4) (@zb _))) (@zb _))) (zw (i:=7) sc_law_scores.nd rfl (Or.inl rfl)) (@zd _ _ _ (ps_asg (@zt _ _ _ _ _ _ _ _ wf (@z0 _ _ _ _ _ _ _ ya (pv 4) (pv 7) (fun _ _=>rfl)) (@zt _ _ _ _ _ _ _ _ zff (@z0 _ _ _ _ _ _ _ ya (pv 1) (pv 5) (fun _ _=>rfl)) (@z0 _ _ _ _ _ _ _ ya (pv 6) (pv 7) (fun _ _=>rfl)))) (pg_sub (pv 4) (pv 7) zki))))))) (@zd _ _ _ (@zp _ _ _ _ (pv 4))))),?_⟩;rw[show start ["hands", "weights", "handicaps", "row", "found", "k", "worths", "j"] [V.ref b,V.ref l,V.ref m,V.ref r]=[some (V.ref b),some (V.ref l),some (V.ref m),some (V.ref r),none,none,none,none] from rfl];simp only[zg,zh,↓reduceIte];refine⟨_,.inl (.of hm),fun t ht => ?_⟩;obtain⟨S1,t1⟩:=lay ht (.lst (hc.map V.int));generalize upd H t (.lst (hc.map V.int))=H1 at *;have h4:=G.hands.2;have ho8:=G.outs1.2;refine⟨_,.inl (.of (S1 _ _ hH.at')),?_⟩;rw[Za,hH.len];refine⟨by omega,by omega,?_⟩;rw[Zw];refine ue (PvLS b l m r t ds ws hc row H) ⟨S1,t1,_,_,_,rfl⟩ ?_ ?_
    . rintro i σ H2 hi ⟨S2,t2,v1,v2,v3,rfl⟩
      have hd:ds[i]? = some ds[i]:=Zb hi;obtain⟨x,hx⟩:∃t,xs[i]? = some t:=⟨xs[i]'(by rw[hH.len];exact hi),by simp⟩;obtain⟨wt,hwt⟩:∃t,ws[i]? = some t:=⟨ws[i]'(by rw[lw];exact hi),by simp⟩;obtain⟨z,hz⟩:∃t,row[i]? = some t:=⟨row[i]'(by rw[R.1];exact hi),by simp⟩;have hA:=(hH.mono S2).hand i x _ hx hd;have hG:=G.hand (Zl hi);have hzw:=R.2 i _ z hd hz
      have ls:(yt hc (yw ds ws row i)).length=outs.length:=qq _ _ lh fun p hp=>by
        obtain⟨k,hk,rfl⟩:=Zp.mp hp;exact re G lw R (by have:=ZT.mp hk;omega)
      have lpt:=re G lw R hi;have ept:m3 ds ws row i=rz ds[i] wt z:=by rw[m3,hd,hwt,hz]
      have esc:yt hc (yw ds ws row (i+1))=List.zipWith (· + ·) (yt hc (yw ds ws row i)) (rz ds[i] wt z):=by rw[ee,ft,ept]
      rw[ept]at lpt;have lwb:(xj ds[i] z).length=outs.length:=by rw[rz,Za]at lpt;exact lpt
      have gwb:∀n∈xj ds[i] z,wj n:=fun n hn=>by
        rw[xj,Zk]at hn
        cases e:ds[i].worths[ds[i].words.idxOf z]? with
        | none=>rw[e]at hn;cases hn
        | some r=>rw[e]at hn;exact(hG.cols r (Zi e)).2 n hn
      have gwt:=(gw wt (Zi hwt)).1;generalize hsc:yt hc (yw ds ws row i)=sc at *;simp only[zg,zh,↓reduceIte];refine⟨_,.of (S2 _ _ hH.at'),_,zy (j:=i) (v:=V.ref x.t) (by rw[Ze,hx];rfl),_,S2.seqT hrow,_,zy (j:=i) (v:=V.str z) (by rw[Ze,hz];rfl),?_⟩;refine⟨x,ds[i],z,rfl,hA,hzw,hG.rows,fun rr gi hgi hrr => ?_⟩;refine⟨_,.inl (.of t2),?_⟩;rw[Za,ls];refine⟨by omega,by omega,?_⟩;rw[Zw];have hn2:H t=none:=ht;refine ue (PvLS2 b l m r t rr i sc (rz ds[i] wt z) H H2) ⟨S2,(fun c o hne e=>e),by rw[mixP,YI,ZN,Yh];exact t2,_,rfl⟩ ?_ ?_
      . rintro j σ H3 hj ⟨S3,K3,t3,u,rfl⟩
        have hrt:rr≠t:=fun e=>by
          have h0:=hH.hand i x _ hx hd;have hgl:gi<ds[i].worths.length:=by rw[<-h0.len];exact(Zc.mp hgi).1
          have:=h0.row gi rr _ hgi (Zb hgl);rw[e,hn2]at this;cases this
        have hrr3:=K3 rr _ hrt hrr;have lz:(List.zipWith (· + ·) sc (rz ds[i] wt z)).length=outs.length:=by rw[Yv];omega
        obtain⟨n,en⟩:∃n,sc[j]? = some n:=⟨sc[j]'(by omega),by simp⟩;obtain⟨u',eu⟩:∃n,(xj ds[i] z)[j]? = some n:=⟨(xj ds[i] z)[j]'(by omega),by simp⟩
        have ez:(List.zipWith (· + ·) sc (rz ds[i] wt z))[j]? = some (n+wt*u'):=by
          rw[List.getElem?_zipWith,en,rz,Ze,eu];rfl
        have gu:=gwb u' (Zi eu);simp only[zg,zh,↓reduceIte];refine⟨_,.of t3,_,zy (j:=j) (v:=V.int n) (by rw[Ze,zlh (by omega),en];rfl),_,.of (S3 _ _ hl),_,zy (j:=i) (v:=V.int wt) (by rw[Ze,hwt];rfl),_,.of hrr3,_,zy (j:=j) (v:=V.int u') (by rw[Ze,eu];rfl),wt,rfl,u',rfl,⟨⟨by have:=gwt.1;omega,by have:=gwt.2;omega⟩,by have:=gu.1;omega,by have:=gu.2;omega⟩,n,rfl,_,t3,j,?_,Same.upd S3 hn2,fun c o hne e=>by rw[z8 hne];exact K3 c o hne e,?_,_,rfl⟩
        . rw[Za,zl9 (by omega) (by omega)]
          exact zl6 (by omega)
        . rw[zn,<-zlk (by omega) ez,List.map_set]
      . rintro σ H3 ⟨S3,K3,t3,u,rfl⟩
        refine⟨S3,?_,_,_,_,rfl⟩;rw[esc,t3,mixP,ZG (by rw[Yv];omega),List.drop_of_length_le (by omega),ZP]
    . rintro σ H2 ⟨S2,t2,v1,v2,v3,rfl⟩
      simp only[zg,zh,↓reduceIte];exact q H2 t S2 t2
end
def spWtL(K:Fg):Sp:=fun vs H Q _=>∃(a:Addr) (ns:List Int) (m:Nat),vs=[.ref a,.int m]/\SqL K H a (ns.map V.int)/\1<=m/\m<=8/\∀H' l ws,Same H H'->H' l=some (.lst (ws.map V.int))->ws.length=m->NumsOk ws->(∀i∈ws,1<=i)->Q (.ref l) H'
def spHcL(K:Fg):Sp:=fun vs H Q _=>∃(a:Addr) (ns:List Int) (m:Nat),vs=[.ref a,.int m]/\SqL K H a (ns.map V.int)/\1<=m/\m<=8/\∀H' l ws,Same H H'->H' l=some (.lst (ws.map V.int))->ws.length=m->NumsOk ws->Q (.ref l) H'
def PvWt(H:Hp)(lo:Int)(i:Nat)(ys:List V)(H':Hp):Prop:=H'=H/\∃r:List Int,ys=r.map V.int/\r.length=i/\∀x∈r,lo<=x /\ -(10^60)<x/\x<10^60
def gm:Sp:=fun vs H Q _=>∃(l m:Addr) (ws hc:List Int),vs=[.ref l,.ref m]/\H l=some (.lst (ws.map V.int))/\H m=some (.lst (hc.map V.int))/\NumsOk ws/\NumsOk hc/\∀H',Same H H'->Q (.str (yp "best" (x6 ws hc))) H'
theorem zih(x y:Str):Str.ofString "best " ++ x++Str.ofString " / " ++ y=yp "best" (Str.join (Str.ofString " / ") [x,y]):=by
  rw[yp,show Str.join (Str.ofString " / ") [x,y]=x++Str.ofString " / " ++ y from rfl,show Str.ofString "best " = ("best" : Str)++Str.ofString " " from by decide +kernel];simp only[Str.append_assoc]
section
variable{P:Program}{w:World}{K:Fg}{mg:Str->Option Value}{base:Heap}{a:Ad}
theorem o6 (B:Bt mg) (y7:FnAt P w K mg base "_law_cell" 1 ["script", "k"] (gd K)) (wq:FnAt P w K mg base "_law_number" 1 ["cell", "top"] bb) (D:zc K mg "_law_weights" sd ["script", "many"]):FnAt P w K mg base "_law_weights" 2 ["script", "many"] (spWtL K):=by
  refine FnAt.of D ao (fun vs H Q E h => ?_) (fun f cdv A outer s H vs Q E hr h => ?_)
  . obtain⟨a,ns,m,rfl,_⟩:=h
    rfl
  . obtain⟨a,ns,m,rfl,hS,h1,h8,q⟩:=h
    refine⟨_,(@zd _ _ _ (@zp _ _ _ _ (yj ["k"] ["script", "many"] rfl (xz rfl B.range (za (pv 1) (@zb _))) (fun _=>(zw (i:=0) (show(["k", "script", "many"]:List Str).Nodup by decide +kernel) rfl (Or.inl rfl))) (fun _=>(@yi _)) (fun _=>(@zt _ _ _ _ _ _ _ _ wf (@zi _ _ _ _) (zx zdd rfl B.abs zhg (za (zj wq (hr.mono (by decide)) rfl (za (zj y7 (hr.mono (by decide)) rfl (za (pv 1) (za (@zt _ _ _ _ _ _ _ _ wf (@zi _ _ _ _) (pv 0)) (@zb _)))) (za (@zt _ _ _ _ _ _ _ _ jc (@zi _ _ _ _) (@zi _ _ _ _)) (@zb _)))) (@zb _))))) rfl (by decide +kernel) rfl rfl))),?_⟩;rw[show start ["script", "many"] [V.ref a,V.int m]=[some (V.ref a),some (V.int m)] from rfl];simp only[zg,zh,↓reduceIte];refine⟨by omega,by omega,fun d => ?_⟩;rw[Zw];refine qi (PvWt H 1) ⟨rfl,[],rfl,rfl,fun _ z=>nomatch z⟩ ?_ ?_ ?_
    . rintro i ys H2 hi ⟨rfl,r,rfl,lr,hr⟩
      rw[Za,lr];exact Zd hi (Zd h8 (by decide))
    . rintro i ys H2 hi ⟨rfl,r,rfl,lr,hr⟩
      simp only[zg,zh,↓reduceIte];refine⟨a,ns,44+i,rfl,hS,by omega,fun c=>⟨⟨by decide,by decide,by decide⟩,c,_,rfl,by decide,by decide,fun v v1 v2=>⟨v,rfl,rfl,r++[1+(if v<0 then -v else v)],by simp,by simp[lr],fun x hx => ?_⟩⟩⟩
      rcases ZH.mp hx with z | z
      . exact hr x z
      . rw[ZC.mp z]
        split <;> omega
    . rintro ys H2 ⟨rfl,r,rfl,lr,hr⟩ l hl
      exact q _ l r (Same.upd (Same.refl _) hl) zn lr ⟨by omega,fun n hn=>(hr n hn).2⟩ fun n hn=>(hr n hn).1
theorem rk (B:Bt mg) (y7:FnAt P w K mg base "_law_cell" 1 ["script", "k"] (gd K)) (wq:FnAt P w K mg base "_law_number" 1 ["cell", "top"] bb) (D:zc K mg "_law_handicaps" v8 ["script", "places"]):FnAt P w K mg base "_law_handicaps" 2 ["script", "places"] (spHcL K):=by
  refine FnAt.of D d8 (fun vs H Q E h => ?_) (fun f cdv A outer s H vs Q E hr h => ?_)
  . obtain⟨a,ns,m,rfl,_⟩:=h
    rfl
  . obtain⟨a,ns,m,rfl,hS,h1,h8,q⟩:=h
    refine⟨_,(@zd _ _ _ (@zp _ _ _ _ (yj ["j"] ["script", "places"] rfl (xz rfl B.range (za (pv 1) (@zb _))) (fun _=>(zw (i:=0) (show(["j", "script", "places"]:List Str).Nodup by decide +kernel) rfl (Or.inl rfl))) (fun _=>(@yi _)) (fun _=>(zj wq (hr.mono (by decide)) rfl (za (zj y7 (hr.mono (by decide)) rfl (za (pv 1) (za (@zt _ _ _ _ _ _ _ _ wf (@zi _ _ _ _) (pv 0)) (@zb _)))) (za (@zt _ _ _ _ _ _ _ _ jc (@zi _ _ _ _) (@zi _ _ _ _)) (@zb _))))) rfl (by decide +kernel) rfl rfl))),?_⟩;rw[show start ["script", "places"] [V.ref a,V.int m]=[some (V.ref a),some (V.int m)] from rfl];simp only[zg,zh,↓reduceIte];refine⟨by omega,by omega,fun d => ?_⟩;rw[Zw];refine qi (PvWt H (-(10^60))) ⟨rfl,[],rfl,rfl,fun _ z=>nomatch z⟩ ?_ ?_ ?_
    . rintro i ys H2 hi ⟨rfl,r,rfl,lr,hr⟩
      rw[Za,lr];exact Zd hi (Zd h8 (by decide))
    . rintro i ys H2 hi ⟨rfl,r,rfl,lr,hr⟩
      simp only[zg,zh,↓reduceIte];refine⟨a,ns,47+i,rfl,hS,by omega,fun c=>⟨⟨by decide,by decide,by decide⟩,c,_,rfl,by decide,by decide,fun v v1 v2=>⟨rfl,r++[v],by simp,by simp[lr],fun x hx => ?_⟩⟩⟩
      rcases ZH.mp hx with z | z
      . exact hr x z
      . rw[ZC.mp z]
        omega
    . rintro ys H2 ⟨rfl,r,rfl,lr,hr⟩ l hl
      exact q _ l r (Same.upd (Same.refl _) hl) zn lr ⟨by omega,fun n hn=>(hr n hn).2⟩
theorem vi (B:Bt mg) (D:zc K mg "_law_best_row" ur ["weights", "handicaps"]):FnAt P w K mg base "_law_best_row" 1 ["weights", "handicaps"] gm:=by
  refine FnAt.of D cq (fun vs H Q E h => ?_) (fun f cdv A outer s H vs Q E hr h => ?_)
  . obtain⟨l,m,ws,hc,rfl,_⟩:=h
    rfl
  . obtain⟨l,m,ws,hc,rfl,hl,hm,hw,hh,q⟩:=h
    refine⟨_,(@zd _ _ _ (@zp _ _ _ _ (@zt _ _ _ _ _ _ _ _ xf (@zt _ _ _ _ _ _ _ _ xf (@zt _ _ _ _ _ _ _ _ xf (@zm _ _ _ _) (y8 PySem.F.plainAttrs_str PySem.F.slot_str_join PySem.F.type_str_join mi (@zm _ _ _ _) (za (yj ["one"] ["weights", "handicaps"] rfl (@ye _ _ _ _ (pv 0)) (fun _=>(zw (i:=0) (show(["one", "weights", "handicaps"]:List Str).Nodup by decide +kernel) rfl (Or.inl rfl))) (fun _=>(@yi _)) (fun _=>(y4 l7 rfl B.str mv (za (pv 0) (@zb _)))) rfl (by decide +kernel) rfl rfl) (@zb _)))) (@zm _ _ _ _)) (y8 PySem.F.plainAttrs_str PySem.F.slot_str_join PySem.F.type_str_join mi (@zm _ _ _ _) (za (yj ["one"] ["weights", "handicaps"] rfl (@ye _ _ _ _ (pv 1)) (fun _=>(zw (i:=0) (show(["one", "weights", "handicaps"]:List Str).Nodup by decide +kernel) rfl (Or.inl rfl))) (fun _=>(@yi _)) (fun _=>(y4 l7 rfl B.str mv (za (pv 0) (@zb _)))) rfl (by decide +kernel) rfl rfl) (@zb _)))))),?_⟩;rw[show start ["weights", "handicaps"] [V.ref l,V.ref m]=[some (V.ref l),some (V.ref m)] from rfl];simp only[zg,zh,↓reduceIte]
    have step:∀{ns:List Int} {l:Addr} {H:Hp} {T:List V->Hp->Prop} {σ:L2.St},NumsOk ns->H l=some (.lst (ns.map V.int))->T ((ns.map intS).map V.str) H->ra (Itl K l) σ 1 (zb1 0) tAll (tCB zgu (zft (tVar 0) tNil)) H T:=by
      intro ns l H T σ hN hl hq;refine ym (xs:=ns.map V.int) (PvSt H ns) ⟨rfl,rfl⟩ ?_ ?_ ?_
      . rintro k ys H6 hk ⟨rfl,rfl⟩
        refine⟨?_,.of hl⟩;rw[Za,Za,Zj];have:=hN.len;exact Zd (show _<=9 by omega) (by decide)
      . rintro k y ys H6 hy ⟨rfl,rfl⟩
        obtain⟨n,hn,rfl⟩:=dc hy;have hb:=hN.good n (Zi hn);simp only[zg,zh,↓reduceIte];refine⟨by omega,by omega,rfl,?_⟩;rw[Zq,hn,Zn,Zn];rfl
      . rintro ys H6 ⟨rfl,rfl⟩
        rw[Za,Zt];exact hq
    have jw:=hw.join;have jh:=hh.join;have l5:(Str.ofString "best ").length=5:=by decide +kernel
    have l3:(Str.ofString " / ").length=3:=by decide +kernel
    have z2:∀{n:Nat},n<=2000->n<=sizeLine:=fun h=>Zd h (by decide)
    refine⟨rfl,⟨_,.of hl⟩,fun d=>step hw hl fun l1 hl1 => ?_⟩;obtain⟨S1,u1⟩:=lay hl1 (.lst ((ws.map intS).map V.str));generalize upd H l1 (.lst ((ws.map intS).map V.str))=H1 at *;refine⟨ws.map intS,.of u1,jw.1,?_⟩;rw[vb];refine⟨z2 (by omega),z2 (by rw[xm];omega),rfl,⟨_,.of (S1 _ _ hm)⟩,fun d=>step hh (S1 _ _ hm) fun l2 hl2 => ?_⟩;refine⟨hc.map intS,.of zn,jh.1,?_⟩;rw[vb,zih];exact⟨z2 (by rw[xm,xm];omega),q _ (S1.trans (Same.upd (Same.refl _) hl2))⟩
end
def zii(h t:V)(z:Str):Prop:=(z9 z ≠ "house" /\ h=.non)\/(z9 z∈ji/\(∃p,h=.ref p)/\t=.non)
def gt(C:Addr):Sp:=fun vs H Q _=>∃(x dx:Addr) (h t:V) (z:Str),vs=[.ref x,.str z]/\H x=some (xu C dx h t)/\su z/\zii h t z/\∀H',Same H H'->Q (.bl true) H'
def ze5(K:Fg)(C:Addr):Sp:=fun vs H Q _=>∃(x dx:Addr) (h t v:V),vs=[.ref x,v]/\H x=some (xu C dx h t)/\(∀H',Same H H'->i9 K H' v)/\∀H',Same H H'->Q (.bl true) H'
def J72(c0:Addr)(H1:Hp)(st:L2.St):L2.St->Value->Hp->Prop:=fun σ c H'=>Same H1 H'/\σ=st/\c=.ref c0
theorem ux(h t:V):List.lookup (Str.ofString "say") [(("house" : Str),h),("table", t)]=none:=by
  rw[List.lookup,show(Str.ofString "say" == ("house" : Str))=false from by decide +kernel]
  show List.lookup (Str.ofString "say") [(("table" : Str),t)]=none
  rw[List.lookup,show(Str.ofString "say" == ("table" : Str))=false from by decide +kernel];rfl
section
variable{P:Program}{w:World}{K:Fg}{mg:Str->Option Value}{base:Heap}{a:Ad}{Sr Sb Sd:Sp}
theorem vg (B:Bt mg) (C:Ct K mg a) (c_Desk:ug K mg "Desk" a.Desk "Desk.__init__" yn ["self"] ["house", "table"]) (yr:nr P w K mg base a.Desk "say" 48 ["self", "row"] (pi a K a.Desk Sr Sb Sd)) (D:zc K mg "_law_no_stand" uh ["desk", "row"]):FnAt P w K mg base "_law_no_stand" 49 ["desk", "row"] (gt a.Desk):=by
  refine FnAt.of D sc_law_no_stand (fun vs H Q E h => ?_) (fun f cdv A outer s H vs Q E hr h => ?_)
  . obtain⟨x,dx,h,t,z,rfl,_⟩:=h
    rfl
  . obtain⟨x,dx,h,t,z,rfl,hx,G,st,q⟩:=h
    refine⟨_,(@ze _ _ _ _ _ (zz (i:=2) sc_law_no_stand.nd rfl (Or.inl rfl) (@xn _ _ _ _ _ (@zb _))) (@ze _ _ _ _ _ (za5 (i:=3) C.q_TrueError.toErr rfl C.m_TrueError sc_law_no_stand.nd rfl rfl (fun J pn=>(@zd _ _ _ (vx (zh7 (pv 0) c_Desk.cl yr (hr.mono (by decide)) iq (za (pv 1) (@zb _)))))) (fun e=>(@ze _ _ _ _ _ (zz (i:=4) sc_law_no_stand.nd rfl (Or.inl rfl) (zx ik rfl B.isinstance yk (@za _ _ _ _ _ (pv 3) (@za _ _ _ _ _ (@xn _ _ _ _ _ (@za _ _ _ _ _ (xh (v:=.ref a.NoHouse) rfl C.m_NoHouse rfl) (@za _ _ _ _ _ (xh (v:=.ref a.NoMenu) rfl C.m_NoMenu rfl) (@za _ _ _ _ _ (xh (v:=.ref a.NoPays) rfl C.m_NoPays rfl) (@za _ _ _ _ _ (xh (v:=.ref a.NoRow) rfl C.m_NoRow rfl) (@za _ _ _ _ _ (xh (v:=.ref a.NoRule) rfl C.m_NoRule rfl) (@za _ _ _ _ _ (xh (v:=.ref a.NoShare) rfl C.m_NoShare rfl) (@za _ _ _ _ _ (xh (v:=.ref a.NoWeight) rfl C.m_NoWeight rfl) (@za _ _ _ _ _ (xh (v:=.ref a.NoWord) rfl C.m_NoWord rfl) (@zb _) (zk nofun)) (zk nofun)) (zk nofun)) (zk nofun)) (zk nofun)) (zk nofun)) (zk nofun)) (zk nofun))) (@zb _) (zk nofun)) (zk nofun)))) (@zd _ _ _ (zz (i:=2) sc_law_no_stand.nd rfl (Or.inl rfl) (@xn _ _ _ _ _ (za (zx gj rfl B.isinstance yk (za (pv 3) (za (xh (v:=.ref a.NoStand) rfl C.m_NoStand rfl) (@zb _)))) (za (zx gp rfl B.isinstance yk (za (pv 3) (za (t9 rfl B.ValueError ie) (@zb _)))) (za (pv 4) (@zb _)))))))))) (@zd _ _ _ (@zp _ _ _ _ (@um _ _ _ _ _ _ _ _ (zg8 (Nat.lt_of_succ_lt (hu_of hr))) (pv 2) (@xn _ _ _ _ _ (za (@yz _ _ _ _) (za (@yz _ _ _ _) (za (@yz _ _ _ _) (@zb _))))) (yd _)))))),?_⟩;rw[show start ["desk", "row", "told", "e", "others"] [V.ref x,V.str z]=[some (V.ref x),some (V.str z),none,none,none] from rfl];simp only[zg,zh,↓reduceIte];refine⟨by decide,fun tt htt => ?_⟩;obtain⟨S1,ht1⟩:=lay htt (.tup []);generalize upd H tt (.tup [])=H1 at *;refine⟨J72 a.NoStand H1 [some (V.ref x),some (V.str z),some (V.ref tt),none,none],fun pn => ?_,fun σ1 c H2 hJ => ?_⟩
    . refine⟨_,_,S1 _ _ hx,ux _ _,x,dx,h,t,_,rfl,S1 _ _ hx,.inr ⟨z,rfl,G,?_⟩⟩
      rcases st with ⟨h1,h2⟩ | ⟨h1,h2,h3⟩
      . exact .inr (.inl ⟨h1,h2,fun H' S=>⟨S,rfl,rfl⟩⟩)
      . exact .inr (.inr (.inr (.inr (.inl ⟨h1,h2,h3,fun H' S=>⟨S,rfl,rfl⟩⟩))))
    . obtain⟨S2,rfl,rfl⟩:=hJ
      refine⟨_,rfl,C.q_NoStand.toErr,C.s_NoStand_TrueError,fun e ea hea => ?_⟩;simp only[zg,zh,↓reduceIte];refine⟨by decide,fun p2 hp2 => ?_⟩;have Sa:Same H2 (upd H2 ea (ExcO ea a.NoStand)):=Same.upd (Same.refl _) hea;have Sb:Same (upd H2 ea (ExcO ea a.NoStand)) (upd (upd H2 ea (ExcO ea a.NoStand)) p2 (.tup [V.ref a.NoHouse,V.ref a.NoMenu,V.ref a.NoPays,V.ref a.NoRow,V.ref a.NoRule,V.ref a.NoShare,V.ref a.NoWeight,V.ref a.NoWord])):=Same.upd (Same.refl _) hp2;have h2:=Sb _ _ zn;refine⟨_,h2,C.q_NoStand,[a.NoHouse,a.NoMenu,a.NoPays,a.NoRow,a.NoRule,a.NoShare,a.NoWeight,a.NoWord],.of zn,false,ko ⟨C.k_NoStand_NoHouse,C.k_NoStand_NoMenu,C.k_NoStand_NoPays,C.k_NoStand_NoRow,C.k_NoStand_NoRule,C.k_NoStand_NoShare,C.k_NoStand_NoWeight,C.k_NoStand_NoWord,trivial⟩,?_⟩;refine⟨_,h2,C.q_NoStand,_,C.k_NoStand_NoStand,_,h2,C.q_NoStand,_,C.v_NoStand,?_⟩;simp only[i4,zg,zh,↓reduceIte];generalize upd (upd H2 ea (ExcO ea a.NoStand)) p2 (.tup [V.ref a.NoHouse,V.ref a.NoMenu,V.ref a.NoPays,V.ref a.NoRow,V.ref a.NoRule,V.ref a.NoShare,V.ref a.NoWeight,V.ref a.NoWord])=H3 at *;refine⟨by decide,fun p3 hp3 => ?_⟩;obtain⟨Sc,u3⟩:=lay hp3 (.tup [V.bl true,V.bl true,V.bl false]);generalize upd H3 p3 (.tup [V.bl true,V.bl true,V.bl false])=H4 at *;refine⟨by decide,fun p4 hp4 => ?_⟩;have Sd':Same H4 (upd H4 p4 (.tup [V.bl true,V.bl true,V.bl false])):=Same.upd (Same.refl _) hp4;exact⟨_,.of (Sd' _ _ u3),_,.of zn,rfl,rfl,q _ (S1.trans (S2.trans (Sa.trans (Sb.trans (Sc.trans Sd')))))⟩
theorem lg (B:Bt mg) (C:Ct K mg a) (c_Desk:ug K mg "Desk" a.Desk "Desk.__init__" yn ["self"] ["house", "table"]) (yr:nr P w K mg base a.Desk "say" 48 ["self", "row"] (pi a K a.Desk Sr Sb Sd)) (D:zc K mg "_law_no_row" qr ["desk", "row"]):FnAt P w K mg base "_law_no_row" 49 ["desk", "row"] (ze5 K a.Desk):=by
  refine FnAt.of D sc_law_no_row (fun vs H Q E h => ?_) (fun f cdv A outer s H vs Q E hr h => ?_)
  . obtain⟨x,dx,h,t,v,rfl,_⟩:=h
    rfl
  . obtain⟨x,dx,h,t,v,rfl,hx,bad,q⟩:=h
    refine⟨_,(@ze _ _ _ _ _ (zz (i:=2) sc_law_no_row.nd rfl (Or.inl rfl) (@xn _ _ _ _ _ (@zb _))) (@ze _ _ _ _ _ (za5 (i:=3) C.q_TrueError.toErr rfl C.m_TrueError sc_law_no_row.nd rfl rfl (fun J pn=>(@zd _ _ _ (vx (zh7 (pv 0) c_Desk.cl yr (hr.mono (by decide)) iq (za (pv 1) (@zb _)))))) (fun e=>(@ze _ _ _ _ _ (zz (i:=4) sc_law_no_row.nd rfl (Or.inl rfl) (zx ik rfl B.isinstance yk (@za _ _ _ _ _ (pv 3) (@za _ _ _ _ _ (@xn _ _ _ _ _ (@za _ _ _ _ _ (xh (v:=.ref a.NoHouse) rfl C.m_NoHouse rfl) (@za _ _ _ _ _ (xh (v:=.ref a.NoMenu) rfl C.m_NoMenu rfl) (@za _ _ _ _ _ (xh (v:=.ref a.NoPays) rfl C.m_NoPays rfl) (@za _ _ _ _ _ (xh (v:=.ref a.NoRule) rfl C.m_NoRule rfl) (@za _ _ _ _ _ (xh (v:=.ref a.NoShare) rfl C.m_NoShare rfl) (@za _ _ _ _ _ (xh (v:=.ref a.NoStand) rfl C.m_NoStand rfl) (@za _ _ _ _ _ (xh (v:=.ref a.NoWeight) rfl C.m_NoWeight rfl) (@za _ _ _ _ _ (xh (v:=.ref a.NoWord) rfl C.m_NoWord rfl) (@zb _) (zk nofun)) (zk nofun)) (zk nofun)) (zk nofun)) (zk nofun)) (zk nofun)) (zk nofun)) (zk nofun))) (@zb _) (zk nofun)) (zk nofun)))) (@zd _ _ _ (zz (i:=2) sc_law_no_row.nd rfl (Or.inl rfl) (@xn _ _ _ _ _ (za (zx gj rfl B.isinstance yk (za (pv 3) (za (xh (v:=.ref a.NoRow) rfl C.m_NoRow rfl) (@zb _)))) (za (zx gp rfl B.isinstance yk (za (pv 3) (za (t9 rfl B.ValueError ie) (@zb _)))) (za (pv 4) (@zb _)))))))))) (@zd _ _ _ (@zp _ _ _ _ (@um _ _ _ _ _ _ _ _ (zg8 (Nat.lt_of_succ_lt (hu_of hr))) (pv 2) (@xn _ _ _ _ _ (za (@yz _ _ _ _) (za (@yz _ _ _ _) (za (@yz _ _ _ _) (@zb _))))) (yd _)))))),?_⟩;rw[show start ["desk", "row", "told", "e", "others"] [V.ref x,v]=[some (V.ref x),some v,none,none,none] from rfl];simp only[zg,zh,↓reduceIte];refine⟨by decide,fun tt htt => ?_⟩;obtain⟨S1,ht1⟩:=lay htt (.tup []);generalize upd H tt (.tup [])=H1 at *;refine⟨J72 a.NoRow H1 [some (V.ref x),some v,some (V.ref tt),none,none],fun pn => ?_,fun σ1 c H2 hJ => ?_⟩
    . exact⟨_,_,S1 _ _ hx,ux _ _,x,dx,h,t,_,rfl,S1 _ _ hx,.inl ⟨bad _ S1,fun H' S=>⟨S,rfl,rfl⟩⟩⟩
    . obtain⟨S2,rfl,rfl⟩:=hJ
      refine⟨_,rfl,C.q_NoRow.toErr,C.s_NoRow_TrueError,fun e ea hea => ?_⟩;simp only[zg,zh,↓reduceIte];refine⟨by decide,fun p2 hp2 => ?_⟩;have Sa:Same H2 (upd H2 ea (ExcO ea a.NoRow)):=Same.upd (Same.refl _) hea;have Sb:Same (upd H2 ea (ExcO ea a.NoRow)) (upd (upd H2 ea (ExcO ea a.NoRow)) p2 (.tup [V.ref a.NoHouse,V.ref a.NoMenu,V.ref a.NoPays,V.ref a.NoRule,V.ref a.NoShare,V.ref a.NoStand,V.ref a.NoWeight,V.ref a.NoWord])):=Same.upd (Same.refl _) hp2;have h2:=Sb _ _ zn;refine⟨_,h2,C.q_NoRow,[a.NoHouse,a.NoMenu,a.NoPays,a.NoRule,a.NoShare,a.NoStand,a.NoWeight,a.NoWord],.of zn,false,ko ⟨C.k_NoRow_NoHouse,C.k_NoRow_NoMenu,C.k_NoRow_NoPays,C.k_NoRow_NoRule,C.k_NoRow_NoShare,C.k_NoRow_NoStand,C.k_NoRow_NoWeight,C.k_NoRow_NoWord,trivial⟩,?_⟩;refine⟨_,h2,C.q_NoRow,_,C.k_NoRow_NoRow,_,h2,C.q_NoRow,_,C.v_NoRow,?_⟩;simp only[i4,zg,zh,↓reduceIte];generalize upd (upd H2 ea (ExcO ea a.NoRow)) p2 (.tup [V.ref a.NoHouse,V.ref a.NoMenu,V.ref a.NoPays,V.ref a.NoRule,V.ref a.NoShare,V.ref a.NoStand,V.ref a.NoWeight,V.ref a.NoWord])=H3 at *;refine⟨by decide,fun p3 hp3 => ?_⟩;obtain⟨Sc,u3⟩:=lay hp3 (.tup [V.bl true,V.bl true,V.bl false]);generalize upd H3 p3 (.tup [V.bl true,V.bl true,V.bl false])=H4 at *;refine⟨by decide,fun p4 hp4 => ?_⟩;have Sd':Same H4 (upd H4 p4 (.tup [V.bl true,V.bl true,V.bl false])):=Same.upd (Same.refl _) hp4;exact⟨_,.of (Sd' _ _ u3),_,.of zn,rfl,rfl,q _ (S1.trans (S2.trans (Sa.trans (Sb.trans (Sc.trans Sd')))))⟩
end
def zgx(C:Addr):Sp:=fun vs H Q _=>∃(x dx:Addr) (h t:V) (b:Addr) (xs:List HX) (ds:List HD) (n:Nat),vs=[.ref x,.ref b]/\H x=some (xu C dx h t)/\(h=.non\/((∃p,h=.ref p)/\t=.non))/\HandsL H b xs ds/\vh n ds/\∀H',Same H H'->Q (.bl true) H'
def PvNo(st st2:L2.St)(H:Hp)(_:Nat)(σ:L2.St)(H':Hp):Prop:=Same H H'/\∃v:Option V,σ=st++[v]++st2
def PvFw(H:Hp)(ds:List HD)(i:Nat)(ys:List V)(H':Hp):Prop:=H'=H/\ys=((ds.take i).map fun d=>d.words.getD 0 ⟨#[]⟩).map V.str
theorem wz {b r:Str} (hb:b∈wo) (hv:b ≠ "verdict") (hl:(yp b r).length<=sizeLine):su (yp b r)/\z9 (yp b r)=b/\w4 (yp b r)=r:=by
  have e:=zj4 (r:=r) hb;have e1:z9 (yp b r)=b:=by rw[z9,e]
  exact⟨⟨hl,by rw[e1];exact hb,fun h=>absurd (e1.symm.trans h) hv⟩,e1,by rw[w4,e]⟩
theorem jk {K:Fg} {H:Hp} {z:Str} (h:decide (z.length<=100)=true/\(z9 z∉wo\/(z9 z = "verdict" /\ z≠z9 z))):i9 K H (.str z):=.inr ⟨z,rfl,Zd (of_decide_eq_true h.1) (by decide),h.2⟩
theorem bad1:z9 (Str.ofString "")∉wo:=by decide +kernel
theorem bad2:z9 (Str.ofString "deals a")∉wo:=by decide +kernel
theorem bad3:z9 (Str.ofString "verdict a") = "verdict" /\ Str.ofString "verdict a" ≠ z9 (Str.ofString "verdict a"):=by decide +kernel
theorem bad4:z9 (Str.ofString "verdict ") = "verdict" /\ Str.ofString "verdict " ≠ z9 (Str.ofString "verdict "):=by decide +kernel
theorem zhd {K:Fg} {H:Hp} {p:Addr} {ys:List V} (hp:H p=some (.lst ys)) {i:Nat} {y:V} (hy:[V.str (Str.ofString ""),V.non,V.str (Str.ofString "deals a"),V.str (Str.ofString "verdict a"),V.str (Str.ofString "verdict "),V.int 7,V.ref p][i]? = some y):∀H',Same H H'->i9 K H' y:=fun H' S=>by
  have hm:=Zi hy;simp only[ZK,Zx,or_false]at hm
  rcases hm with rfl | rfl | rfl | rfl | rfl | rfl | rfl
  . exact jk ⟨by decide +kernel,.inl bad1⟩
  . exact .inl ⟨_,.non,by decide +kernel⟩
  . exact jk ⟨by decide +kernel,.inl bad2⟩
  . exact jk ⟨by decide +kernel,.inr bad3⟩
  . exact jk ⟨by decide +kernel,.inr bad4⟩
  . exact .inl ⟨_,.int _,by decide +kernel⟩
  . exact .inl ⟨_,.lst (S _ _ hp),by decide +kernel⟩
theorem al{z b:Str}(h:(z9 z,decide (b∈wo),decide (z.length<=100),decide (b=z))=(b,true,true,true)):su z/\z9 z=b:=by
  injection h with h1 h2
  injection h2 with h2 h3
  injection h3 with h3 h4
  have h2:=of_decide_eq_true h2;have h3:=of_decide_eq_true h3;have h4:=of_decide_eq_true h4;exact⟨⟨Zd h3 (by decide),by rw[h1];exact h2,fun _=>h4.symm.trans h1.symm⟩,h1⟩
theorem zdj(r:Str):Str.ofString "deal " ++ r=yp "deal" r:=by
  rw[yp,show("deal" : Str)++Str.ofString " " = Str.ofString "deal " from by decide +kernel]
theorem w_pays(r:Str):Str.ofString "pays " ++ r=yp "pays" r:=by
  rw[yp,show("pays" : Str)++Str.ofString " " = Str.ofString "pays " from by decide +kernel]
theorem w_menu(r:Str):Str.ofString "menu " ++ r=yp "menu" r:=by
  rw[yp,show("menu" : Str)++Str.ofString " " = Str.ofString "menu " from by decide +kernel]
theorem i7(b r:Str):(yp b r).length=b.length+1+r.length:=by
  rw[yp,xm,xm,show(Str.ofString " ").length=1 from by decide +kernel]
theorem zjv {ww nm:Str} (h1:ww.length<=44) (h2:nm.length<=8) {i:Nat} {y:V} (hy:[V.str (Str.ofString "deal " ++ ww),V.str (Str.ofString "pays " ++ ww),V.str (Str.ofString "verdict"),V.str (Str.ofString "menu " ++ nm),V.str (Str.ofString "deal"),V.str (Str.ofString "menu")][i]? = some y):∃z,y=.str z/\su z/\z9 z∈ji:=by
  have ln:∀{b r:Str},b.length<=10->r.length<=44->(yp b r).length<=sizeLine:=fun h h'=>by
    rw[i7];exact Zd (show _<=60 by omega) (by decide)
  have hm:=Zi hy;simp only[ZK,Zx,or_false]at hm
  rcases hm with rfl | rfl | rfl | rfl | rfl | rfl
  . rw[zdj]
    have g:=wz (b := "deal") (r:=ww) (by decide +kernel) (by decide +kernel) (ln (by decide +kernel) h1);exact⟨_,rfl,g.1,by rw[g.2.1];decide +kernel⟩
  . rw[w_pays]
    have g:=wz (b := "pays") (r:=ww) (by decide +kernel) (by decide +kernel) (ln (by decide +kernel) h1);exact⟨_,rfl,g.1,by rw[g.2.1];decide +kernel⟩
  . have g:=al (z:=Str.ofString "verdict") (b := "verdict") (by decide +kernel)
    exact⟨_,rfl,g.1,by rw[g.2];decide +kernel⟩
  . rw[w_menu]
    have g:=wz (b := "menu") (r:=nm) (by decide +kernel) (by decide +kernel) (ln (by decide +kernel) (by omega));exact⟨_,rfl,g.1,by rw[g.2.1];decide +kernel⟩
  . have g:=al (z:=Str.ofString "deal") (b := "deal") (by decide +kernel)
    exact⟨_,rfl,g.1,by rw[g.2];decide +kernel⟩
  . have g:=al (z:=Str.ofString "menu") (b := "menu") (by decide +kernel)
    exact⟨_,rfl,g.1,by rw[g.2];decide +kernel⟩
theorem ans_no:∀z∈ji,z ≠ "house" := by decide +kernel
section
variable{P:Program}{w:World}{K:Fg}{mg:Str->Option Value}{base:Heap}{a:Ad}
theorem vp (B:Bt mg) (lg:FnAt P w K mg base "_law_no_row" 49 ["desk", "row"] (ze5 K a.Desk)) (vg:FnAt P w K mg base "_law_no_stand" 49 ["desk", "row"] (gt a.Desk)) (D:zc K mg "_law_none" nn ["desk", "hands"]):FnAt P w K mg base "_law_none" 50 ["desk", "hands"] (zgx a.Desk):=by
  refine FnAt.of D sc_law_none (fun vs H Q E h => ?_) (fun f cdv A outer s H vs Q E hr h => ?_)
  . obtain⟨x,dx,h,t,b,xs,ds,n,rfl,_⟩:=h
    rfl
  . obtain⟨x,dx,h,t,b,xs,ds,n,rfl,hx,hst,hL,hOk,q⟩:=h
    refine⟨_,(@ze _ _ _ _ _ (xp PassesOwn.never rfl (@ye _ _ _ _ (@we _ _ _ _ (@za _ _ _ _ _ (@zm _ _ _ _) (@za _ _ _ _ _ (@ql _ _ _) (@za _ _ _ _ _ (@zm _ _ _ _) (@za _ _ _ _ _ (@zm _ _ _ _) (@za _ _ _ _ _ (@zm _ _ _ _) (@za _ _ _ _ _ (@zi _ _ _ _) (@za _ _ _ _ _ (@we _ _ _ _ (@za _ _ _ _ _ (@zm _ _ _ _) (@zb _) (zk nofun))) (@zb _) (zk nofun)) (zk nofun)) (zk nofun)) (zk nofun)) (zk nofun)) (zk nofun)) (zk nofun)))) (zw (i:=2) sc_law_none.nd rfl (Or.inl rfl)) (@zd _ _ _ (@yh _ _ _ _ _ _ _ _ (@yv _ _ _ _ (yx (zj lg (hr.mono (by decide)) rfl (za (pv 0) (za (pv 2) (@zb _)))))) (@zd _ _ _ (@zp _ _ _ _ (@yz _ _ _ _))) (@z7 _)))) (@ze _ _ _ _ _ (zz (i:=3) sc_law_none.nd rfl (Or.inl rfl) (y8 PySem.F.plainAttrs_str PySem.F.slot_str_join PySem.F.type_str_join mi (@zm _ _ _ _) (za (yj ["hand"] ["desk", "hands", "row", "words"] rfl (@ye _ _ _ _ (pv 1)) (fun _=>(zw (i:=0) (show(["hand", "desk", "hands", "row", "words"]:List Str).Nodup by decide +kernel) rfl (Or.inl rfl))) (fun _=>(@yi _)) (fun _=>(@z0 _ _ _ _ _ _ _ ya (@z0 _ _ _ _ _ _ _ yq (pv 0) (@zi _ _ _ _) (fun _ _=>rfl)) (@zi _ _ _ _) (fun _ _=>rfl))) rfl (by decide +kernel) rfl rfl) (@zb _)))) (@ze _ _ _ _ _ (xp PassesOwn.never rfl (@ye _ _ _ _ (@we _ _ _ _ (@za _ _ _ _ _ (@zt _ _ _ _ _ _ _ _ xf (@zm _ _ _ _) (pv 3)) (@za _ _ _ _ _ (@zt _ _ _ _ _ _ _ _ xf (@zm _ _ _ _) (pv 3)) (@za _ _ _ _ _ (@zm _ _ _ _) (@za _ _ _ _ _ (@zt _ _ _ _ _ _ _ _ xf (@zm _ _ _ _) (@z0 _ _ _ _ _ _ _ yq (@z0 _ _ _ _ _ _ _ ya (pv 1) (@zi _ _ _ _) (fun _ _=>rfl)) (@zi _ _ _ _) (fun _ _=>rfl))) (@za _ _ _ _ _ (@zm _ _ _ _) (@za _ _ _ _ _ (@zm _ _ _ _) (@zb _) (zk nofun)) (zk nofun)) (zk nofun)) (zk nofun)) (zk nofun)) (zk nofun)))) (zw (i:=2) sc_law_none.nd rfl (Or.inl rfl)) (@zd _ _ _ (@yh _ _ _ _ _ _ _ _ (@yv _ _ _ _ (yx (zj vg (hr.mono (by decide)) rfl (za (pv 0) (za (pv 2) (@zb _)))))) (@zd _ _ _ (@zp _ _ _ _ (@yz _ _ _ _))) (@z7 _)))) (@zd _ _ _ (@zp _ _ _ _ (@yz _ _ _ _)))))),?_⟩;rw[show start ["desk", "hands", "row", "words"] [V.ref x,V.ref b]=[some (V.ref x),some (V.ref b),none,none] from rfl];refine rm fun T hT => ?_
    simp only[zg,zh,↓reduceIte];refine⟨by decide,fun p1 hp1 => ?_⟩;obtain⟨S1,u1⟩:=lay hp1 (.lst [V.str (Str.ofString "verdict")]);generalize upd H p1 (.lst [V.str (Str.ofString "verdict")])=H1 at *;refine⟨by decide,fun p2 hp2 => ?_⟩;have S2:Same H1 (upd H1 p2 (.lst [V.str (Str.ofString ""),V.non,V.str (Str.ofString "deals a"),V.str (Str.ofString "verdict a"),V.str (Str.ofString "verdict "),V.int 7,V.ref p1])):=Same.upd (Same.refl _) hp2;have u2:upd H1 p2 (.lst [V.str (Str.ofString ""),V.non,V.str (Str.ofString "deals a"),V.str (Str.ofString "verdict a"),V.str (Str.ofString "verdict "),V.int 7,V.ref p1]) p2=some (.lst [V.str (Str.ofString ""),V.non,V.str (Str.ofString "deals a"),V.str (Str.ofString "verdict a"),V.str (Str.ofString "verdict "),V.int 7,V.ref p1]):=zn;have v2:=S2 _ _ u1;generalize upd H1 p2 (.lst [V.str (Str.ofString ""),V.non,V.str (Str.ofString "deals a"),V.str (Str.ofString "verdict a"),V.str (Str.ofString "verdict "),V.int 7,V.ref p1])=H2 at *;have S02:=S1.trans S2;refine⟨⟨_,.of u2⟩,?_⟩;refine wn (xs:=[V.str (Str.ofString ""),V.non,V.str (Str.ofString "deals a"),V.str (Str.ofString "verdict a"),V.str (Str.ofString "verdict "),V.int 7,V.ref p1]) (PvNo [some (V.ref x),some (V.ref b)] [none] H2) ⟨Same.refl _,_,rfl⟩ ?_ ?_ ?_
    . rintro i σ H3 hi ⟨S3,v,rfl⟩
      exact .of (S3 _ _ u2)
    . rintro i y σ H3 hy ⟨S3,v,rfl⟩
      simp only[zg,zh,↓reduceIte,ZO,ZN];exact⟨x,dx,h,t,y,rfl,(S02.trans S3) _ _ hx,zhd (S3 _ _ v2) hy,fun H4 S4=>⟨true,rfl,iteF ⟨S3.trans S4,_,rfl⟩⟩⟩
    . rintro σ H3 ⟨S3,v,rfl⟩
      show T _ _ _
      rw[hT];clear hT T;refine rm fun T hT => ?_
      have S03:=S02.trans S3;have hL3:=hL.mono S03;have l3:=hOk.len;simp only[zg,zh,↓reduceIte,ZO,ZN];refine⟨rfl,⟨_,.of hL3.at'⟩,fun dd => ?_⟩;refine ym (xs:=xs.map fun x=>V.ref x.t) (PvFw H3 ds) ⟨rfl,rfl⟩ ?_ ?_ ?_
      . rintro i ys H4 hi ⟨rfl,rfl⟩
        refine⟨?_,.of hL3.at'⟩;rw[Za,Za,Zj];exact Zd (show _<=9 by omega) (by decide)
      . rintro i y ys H4 hy ⟨rfl,rfl⟩
        obtain⟨hx',hh,rfl⟩:=yu hy;have hi:i<ds.length:=by have:=(Zc.mp hh).1;have:=hL.len;omega
        have ed:ds[i]? = some ds[i]:=Zb hi;have hA:=hL3.hand i hx' _ hh ed;have wl:=(hOk.hand _ (Zl hi)).len
        have e0:(ds[i]).words[0]? = some ((ds[i]).words.getD 0 ⟨#[]⟩):=by
          rw[Zk,Zb (by omega)];rfl
        simp only[zg,zh,↓reduceIte];refine⟨_,.of hA.tup,_,zy (j:=1) rfl,_,rfl,_,.of hA.words,_,zy (j:=0) (by rw[Ze,e0];rfl),rfl,?_⟩;rw[Zq,ed,Zn,Zn];rfl
      . rintro ys H4 ⟨rfl,rfl⟩ l hl
        rw[Za,hL.len,Zt]
        have fg:∀z∈ds.map (fun d=>d.words.getD 0 ⟨#[]⟩),z.length<=8:=fun z hz=>by
          obtain⟨d,hd,rfl⟩:=Zp.mp hz;have wl:=(hOk.hand d hd).len;rw[Zk,Zb (by omega)];exact((hOk.hand d hd).good _ (Zl _)).2.1
        have jf:=vn (y:=Str.ofString " ") (ps:=ds.map fun d=>d.words.getD 0 ⟨#[]⟩) (B:=8) (n:=4) fg (by rw[Za];omega) (by decide +kernel) (by decide);refine⟨_,.of zn,jf.1,?_⟩;rw[vb];obtain⟨S5,-⟩:=lay hl (.lst ((ds.map fun d=>d.words.getD 0 ⟨#[]⟩).map V.str));generalize upd H4 l (.lst ((ds.map fun d=>d.words.getD 0 ⟨#[]⟩).map V.str))=H5 at *;have jl:=jf.2;generalize Str.join (Str.ofString " ") (ds.map fun d=>d.words.getD 0 ⟨#[]⟩)=ww at *;have S05:=S03.trans S5;rw[hT];clear hT T;simp only[zg,zh,↓reduceIte];obtain⟨x0,hx0⟩:∃y,xs[0]? = some y:=⟨xs[0]'(by rw[hL.len];omega),by simp⟩;have d0:ds[0]? = some (ds[0]'(by omega)):=Zb (by omega);have nm8:=(hOk.good _ (Zi d0)).2.1;generalize ds[0]'(by omega)=dd0 at *;have hA:=(hL.mono S05).hand 0 x0 _ hx0 d0;have z2:∀{n:Nat},n<=100->n<=sizeLine:=fun h=>Zd h (by decide)
        have e1:(Str.ofString "deal ").length=5:=by decide +kernel
        have e2:(Str.ofString "pays ").length=5:=by decide +kernel
        have e3:(Str.ofString "menu ").length=5:=by decide +kernel
        refine⟨z2 (by omega),z2 (by omega),_,.of (S05 _ _ hL.at'),_,zy (j:=0) (v:=V.ref x0.t) (by rw[Ze,hx0];rfl),_,rfl,_,.of hA.tup,_,zy (j:=0) rfl,_,rfl,z2 (by omega),by decide,fun p5 hp5 => ?_⟩;obtain⟨S6,u6⟩:=lay hp5 (.lst [V.str (Str.ofString "deal " ++ ww),V.str (Str.ofString "pays " ++ ww),V.str (Str.ofString "verdict"),V.str (Str.ofString "menu " ++ dd0.name),V.str (Str.ofString "deal"),V.str (Str.ofString "menu")]);generalize upd H5 p5 (.lst [V.str (Str.ofString "deal " ++ ww),V.str (Str.ofString "pays " ++ ww),V.str (Str.ofString "verdict"),V.str (Str.ofString "menu " ++ dd0.name),V.str (Str.ofString "deal"),V.str (Str.ofString "menu")])=H6 at *;have S06:=S05.trans S6;refine⟨⟨_,.of u6⟩,?_⟩;refine wn (xs:=[V.str (Str.ofString "deal " ++ ww),V.str (Str.ofString "pays " ++ ww),V.str (Str.ofString "verdict"),V.str (Str.ofString "menu " ++ dd0.name),V.str (Str.ofString "deal"),V.str (Str.ofString "menu")]) (PvNo [some (V.ref x),some (V.ref b)] [some (V.str ww)] H6) ⟨Same.refl _,_,rfl⟩ ?_ ?_ ?_
        . rintro i σ H7 hi ⟨S7,v,rfl⟩
          exact .of (S7 _ _ u6)
        . rintro i y σ H7 hy ⟨S7,v,rfl⟩
          obtain⟨z,rfl,G,ha⟩:=zjv jl nm8 hy
          have st:zii h t z:=by
            rcases hst with e | ⟨e,e2⟩
            . exact .inl ⟨ans_no _ ha,e⟩
            . exact .inr ⟨ha,e,e2⟩
          simp only[zg,zh,↓reduceIte,ZO,ZN];exact⟨x,dx,h,t,z,rfl,(S06.trans S7) _ _ hx,G,st,fun H8 S8=>⟨true,rfl,iteF ⟨S7.trans S8,_,rfl⟩⟩⟩
        . rintro σ H7 ⟨S7,v,rfl⟩
          simp only[zg,zh,↓reduceIte,ZO,ZN];exact q _ (S06.trans S7)
end
theorem zll{ts:List Int}{pl:Nat}(hl:pl<ts.length)(h1:∀j x y,j<ts.length->ts[j]? = some x->ts[pl]? = some y->x<=y)(h2:∀j x y,j<pl->ts[j]? = some x->ts[pl]? = some y->x<y):nv ts=pl:=by
  have ep:ts[pl]? = some ts[pl]:=Zb hl
  have hm:ts.max?.getD 0=ts[pl]:=zim (Zl hl) fun x hx=>by
    obtain⟨j,hj,rfl⟩:=Zy hx;exact h1 j _ _ hj (Zb hj) ep
  rw[nv,hm];have hle:ts.idxOf ts[pl]<=pl:=gq ep;have hil:ts.idxOf ts[pl]<ts.length:=by omega
  have he:ts[ts.idxOf ts[pl]]=ts[pl]:=YS hil
  by_cases hlt:ts.idxOf ts[pl]<pl
  . have:=h2 _ _ _ hlt (Zb hil) ep
    rw[he]at this;omega
  . omega
structure RowOk(ds:List HD)(r:List Str):Prop where
  len:r.length=ds.length
  good:∀z∈r,GoodN z
theorem zg6{n:Nat}{ds:List HD}{r:List Str}(h:vh n ds)(hr:r∈yl (ds.map HD.words)):RowOk ds r:=by
  have hw:(ds.map HD.words).take (ds.map HD.words).length=ds.map HD.words:=Zt;have p:=(zbd (ds.map HD.words) (ds.map HD.words).length (Zm _) r).mp (by rw[hw];exact hr);rw[hw]at p;have l1:=p.1;rw[Za]at l1;refine⟨l1,fun z hz => ?_⟩;obtain⟨j,hj⟩:=List.getElem?_of_mem hz;have hjl:=(Zc.mp hj).1;have ed:ds[j]? = some ds[j]:=Zb (by omega);obtain⟨w,e1,e2⟩:=p.2 j (ds[j]).words (by rw[Ze,ed];rfl);rw[e1]at hj;cases hj;exact(h.hand _ (Zi ed)).good _ e2
structure Weigh(H:Hp)(b o l m:Addr)(xs:List HX)(ds:List HD)(outs:List Str)(ws hc:List Int):Prop where
  hL:HandsL H b xs ds
  hOk:vh outs.length ds
  G:GoodHouse outs ds
  ho:H o=some (.lst (outs.map V.str))
  hl:H l=some (.lst (ws.map V.int))
  lw:ws.length=ds.length
  hw:NumsOk ws
  w1:∀i∈ws,1<=i
  hm:H m=some (.lst (hc.map V.int))
  lh:hc.length=outs.length
  hh:NumsOk hc
theorem Weigh.mono{H H':Hp}{b o l m:Addr}{xs:List HX}{ds:List HD}{outs:List Str}{ws hc:List Int}(S:Same H H')(h:Weigh H b o l m xs ds outs ws hc):Weigh H' b o l m xs ds outs ws hc :=
  ⟨h.hL.mono S,h.hOk,h.G,S _ _ h.ho,S _ _ h.hl,h.lw,h.hw,h.w1,S _ _ h.hm,h.lh,h.hh⟩
def dk(C:Addr):Sp:=fun vs H Q _=>∃(x dx p d b o l m:Addr) (xs:List HX) (ds:List HD) (outs:List Str) (ws hc:List Int),vs=[.ref x,.ref b,.ref o,.ref l,.ref m]/\H x=some (xu C dx (.ref p) (.ref d))/\H d=some (.dT (xr (u0 outs ds ws hc) (yl (ds.map HD.words))))/\Weigh H b o l m xs ds outs ws hc/\∀H',Same H H'->Q (.bl true) H'
def PvDb(st:L2.St)(H:Hp)(_:Nat)(σ:L2.St)(H':Hp):Prop:=Same H H'/\∃v1 v2 v3 v4:Option V,σ=st++[v1,v2,v3,v4]
def PvBp(st:L2.St)(ts:List Int)(H:Hp)(i:Nat)(σ:L2.St)(H':Hp):Prop:=H'=H/\∃(pl:Nat) (v4:Option V),pl<ts.length/\(∀j x y,j<i->ts[j]? = some x->ts[pl]? = some y->x<=y)/\(∀j x y,j<pl->ts[j]? = some x->ts[pl]? = some y->x<y)/\σ=st++[some (.int pl),v4]
theorem zc8{a:Ad}{K:Fg}{C:Addr}{Sr Sb:Sp}{H:Hp}{Q:VK}{E:XK}{x dx p d:Addr}{f:List Str->Str}{ds:List HD}{n:Nat}{row:List Str}(hx:H x=some (xu C dx (.ref p) (.ref d)))(hd:H d=some (.dT (xr f (yl (ds.map HD.words)))))(hOk:vh n ds)(hr:row∈yl (ds.map HD.words))(q:∀H',Same H H'->Q (.str (f row)) H'):pi a K C Sr Sb ja [.ref x,.str (yp "deal" (Str.join (Str.ofString " ") row))] H Q E:=by
  have ro:=zg6 hOk hr;have l3:=hOk.len;have lr:=ro.len;have rn0:row≠[]:=fun e=>by rw[e]at lr;simp at lr;omega
  have rj:=vn (y:=Str.ofString " ") (ps:=row) (B:=8) (n:=4) (fun p hp=>(ro.good p hp).2.1) (by omega) (by decide +kernel) (by decide)
  have g:=wz (b := "deal") (r:=Str.join (Str.ofString " ") row) (by decide +kernel) (by decide +kernel) (by
    rw[i7]
    exact Zd (Yk rj.2 _) (by decide +kernel))
  refine⟨x,dx,_,_,_,rfl,hx,.inr ⟨_,rfl,g.1,.inr (.inr (.inr (.inr (.inr ⟨g.2.1,p,d,rfl,rfl,fun H1 S1 => ?_⟩))))⟩⟩;rw[g.2.2];exact⟨p,d,_,row,_,rfl,S1 _ _ hd,zgg hr,rn0,fun z hz=>(ro.good z hz).plain,by omega,Zd rj.2 (by decide),fun H2 S2=>q H2 (S1.trans S2)⟩
theorem zcm{n:Nat}{ds:List HD}{row:List Str}(hOk:vh n ds)(hr:row∈yl (ds.map HD.words)):JoinOk (Str.ofString " ") row=true/\(Str.ofString "deal ").length+(Str.join (Str.ofString " ") row).length<=sizeLine:=by
  have ro:=zg6 hOk hr;have l3:=hOk.len;have lr:=ro.len;have rj:=vn (y:=Str.ofString " ") (ps:=row) (B:=8) (n:=4) (fun p hp=>(ro.good p hp).2.1) (by omega) (by decide +kernel) (by decide);exact⟨rj.1,Zd (Yk rj.2 _) (by decide +kernel)⟩
section
variable{P:Program}{w:World}{K:Fg}{mg:Str->Option Value}{base:Heap}{a:Ad}{Sr Sb:Sp}
theorem uw (B:Bt mg) (c_Desk:ug K mg "Desk" a.Desk "Desk.__init__" yn ["self"] ["house", "table"]) (yr:nr P w K mg base a.Desk "say" 48 ["self", "row"] (pi a K a.Desk Sr Sb ja)) (qh:FnAt P w K mg base "_law_rows" 1 ["hands"] zaj) (m4:FnAt P w K mg base "_law_scores" 2 ["hands", "weights", "handicaps", "row"] (zaz K)) (D:zc K mg "_law_dealt" pc ["desk", "hands", "outcomes", "weights", "handicaps"]):FnAt P w K mg base "_law_dealt" 49 ["desk", "hands", "outcomes", "weights", "handicaps"] (dk a.Desk):=by
  refine FnAt.of D sc_law_dealt (fun vs H Q E h => ?_) (fun f cdv A outer s H vs Q E hr h => ?_)
  . obtain⟨x,dx,p,d,b,o,l,m,xs,ds,outs,ws,hc,rfl,_⟩:=h
    rfl
  . obtain⟨x,dx,p,d,b,o,l,m,xs,ds,outs,ws,hc,rfl,hx,hd,hW,q⟩:=h
    refine⟨_,(@ze _ _ _ _ _ (xp PassesOwn.never rfl (@ye _ _ _ _ (zj qh (hr.mono (by decide)) rfl (za (pv 1) (@zb _)))) (zw (i:=5) sc_law_dealt.nd rfl (Or.inl rfl)) (@ze _ _ _ _ _ (zz (i:=6) sc_law_dealt.nd rfl (Or.inl rfl) (zj m4 (hr.mono (by decide)) rfl (za (pv 1) (za (pv 3) (za (pv 4) (za (pv 5) (@zb _))))))) (@ze _ _ _ _ _ (zz (i:=7) sc_law_dealt.nd rfl (Or.inl rfl) (@zi _ _ _ _)) (@ze _ _ _ _ _ (xp PassesOwn.never rfl (xz rfl B.range (za (zx yf rfl B.len xi (za (pv 2) (@zb _))) (@zb _))) (zw (i:=8) sc_law_dealt.nd rfl (Or.inl rfl)) (@zd _ _ _ (@yh _ _ _ _ _ _ _ _ (@yb _ _ _ _ _ _ _ _ zf9 (@z0 _ _ _ _ _ _ _ ya (pv 6) (pv 8) (fun _ _=>rfl)) (@z0 _ _ _ _ _ _ _ ya (pv 6) (pv 7) (fun _ _=>rfl)) (yd _)) (@zd _ _ _ (zz (i:=7) sc_law_dealt.nd rfl (Or.inl rfl) (pv 8))) (@z7 _)))) (@zd _ _ _ (@yh _ _ _ _ _ _ _ _ (@yb _ _ _ _ _ _ _ _ ve (on (pv 0) c_Desk.cl yr (hr.mono (by decide)) (za (@zt _ _ _ _ _ _ _ _ xf (@zm _ _ _ _) (y8 PySem.F.plainAttrs_str PySem.F.slot_str_join PySem.F.type_str_join zc3 (@zm _ _ _ _) (za (pv 5) (@zb _)))) (@zb _))) (@z0 _ _ _ _ _ _ _ ya (pv 2) (pv 7) (fun _ _=>rfl)) (yd _)) (@zd _ _ _ (@zp _ _ _ _ (@yz _ _ _ _))) (@z7 _))))))) (@zd _ _ _ (@zp _ _ _ _ (@yz _ _ _ _)))),?_⟩;rw[show start ["desk", "hands", "outcomes", "weights", "handicaps", "row", "numbers", "place", "j"] [V.ref x,V.ref b,V.ref o,V.ref l,V.ref m]=[some (V.ref x),some (V.ref b),some (V.ref o),some (V.ref l),some (V.ref m),none,none,none,none] from rfl];simp only[zg,zh,↓reduceIte];have l3:=hW.hOk.len;refine⟨b,xs,ds,rfl,hW.hL,by omega,fun d hd=>by have:=(hW.hOk.hand d hd).len;omega,fun H1 lr as S1 hR=>⟨lr,rfl,⟨_,.of hR.lst⟩,?_⟩⟩;refine wn (xs:=as.map V.ref) (PvDb [some (V.ref x),some (V.ref b),some (V.ref o),some (V.ref l),some (V.ref m)] H1) ⟨Same.refl _,_,_,_,_,rfl⟩ ?_ ?_ ?_
    . rintro k σ H2 hk ⟨S2,v1,v2,v3,v4,rfl⟩
      exact .of (S2 _ _ hR.lst)
    . rintro k y σ H2 hy ⟨S2,v1,v2,v3,v4,rfl⟩
      obtain⟨r,er,rfl⟩:=m7 hy;have hk:k<(yl (ds.map HD.words)).length:=by have:=(Zc.mp er).1;have:=hR.tups.len;omega
      have hrm:=Zl hk;have hr2:=S2 _ _ (hR.tups.at' k r _ er (Zb hk));generalize (yl (ds.map HD.words))[k]=row at *;have R:=e6 hrm;have S02:=S1.trans S2;have W2:=hW.mono S02
      have pw:∀q∈yw ds ws row ds.length,q.length=outs.length:=fun q hq=>by
        obtain⟨i,hi,rfl⟩:=Zp.mp hq;exact re hW.G hW.lw R (ZT.mp hi)
      have hsl:(yt hc (yw ds ws row ds.length)).length=outs.length:=qq _ _ hW.lh pw;have ho1:=hW.G.outs1;simp only[zg,zh,↓reduceIte,ZO,ZN];refine⟨b,l,m,r,xs,outs,ds,ws,hc,row,rfl,W2.hL,hW.G,W2.hl,hW.lw,fun i hi=>⟨hW.hw.good i hi,hW.w1 i hi⟩,W2.hm,hW.lh,.of hr2,R,fun H3 nb S3 hnb => ?_⟩;have hdeal:u0 outs ds ws hc row=outs.getD (nv (yt hc (yw ds ws row ds.length))) ⟨#[]⟩:=rfl;generalize yt hc (yw ds ws row ds.length)=ts at *;have ho3:=S3 _ _ W2.ho;refine⟨_,.inl (.of ho3),?_⟩;rw[Za];refine⟨by omega,by omega,?_⟩;rw[Zw];refine ue (PvBp [some (V.ref x),some (V.ref b),some (V.ref o),some (V.ref l),some (V.ref m),some (V.ref r),some (V.ref nb)] ts H3) ⟨rfl,0,_,by omega,fun j x y h=>absurd h (YE _),fun j x y h=>absurd h (YE _),rfl⟩ ?_ ?_
      . rintro j σ H4 hj ⟨rfl,pl,u4,hpl,h1,h2,rfl⟩
        obtain⟨n1,ex⟩:∃n,ts[j]? = some n:=⟨ts[j]'(by omega),by simp⟩;obtain⟨n2,ey⟩:∃n,ts[pl]? = some n:=⟨ts[pl]'(by omega),by simp⟩;simp only[zg,zh,↓reduceIte,ZO,ZN];refine⟨_,.of hnb,_,zy (j:=j) (v:=V.int n1) (by rw[Ze,ex];rfl),_,.of hnb,_,zy (j:=pl) (v:=V.int n2) (by rw[Ze,ey];rfl),n1,rfl,n2,rfl,ite2 (fun h => ?_) fun h => ?_⟩
        . have h:=of_decide_eq_true h
          refine⟨rfl,j,_,by omega,fun i u v hi eu ev => ?_,fun i u v hi eu ev => ?_,rfl⟩
          . rw[ex]at ev
            cases ev
            by_cases hij:i=j
            . subst hij
              rw[ex]at eu;cases eu;exact Int.le_refl _
            . have:=h1 i u n2 (by omega) eu ey
              omega
          . rw[ex]at ev
            cases ev;have:=h1 i u n2 hi eu ey;omega
        . have h:¬_:=fun z=>h (decide_eq_true z)
          refine⟨rfl,pl,_,hpl,fun i u v hi eu ev => ?_,h2,rfl⟩
          by_cases hij:i=j
          . subst hij
            rw[ex]at eu;rw[ey]at ev;cases eu;cases ev;omega
          . exact h1 i u v (by omega) eu ev
      . rintro σ H4 ⟨rfl,pl,u4,hpl,h1,h2,rfl⟩
        have hbp:=zll hpl (fun j x y hj=>h1 j x y (by omega)) h2;have hplo:pl<outs.length:=by omega
        have edeal:u0 outs ds ws hc row=outs[pl]:=by
          rw[hdeal,hbp,Zk,Zb hplo];rfl
        have rj:=zcm hW.hOk hrm;have S04:=S02.trans S3;simp only[zg,zh,↓reduceIte,ZO,ZN];refine⟨_,_,S04 _ _ hx,ux _ _,rfl,row,.of (S3 _ _ hr2),rj.1,?_⟩;rw[vb,zdj];refine⟨rj.2,zc8 (S04 _ _ hx) (S04 _ _ hd) hW.hOk hrm fun H5 S5 => ?_⟩;rw[edeal];exact⟨_,.of (S5 _ _ ho3),V.str outs[pl],zy (by rw[Ze,Zb hplo];rfl),rfl,ite2 (fun h=>absurd h (by simp)) fun _=>⟨S2.trans (S3.trans S5),_,_,_,_,rfl⟩⟩
    . rintro σ H2 ⟨S2,v1,v2,v3,v4,rfl⟩
      simp only[zg,zh,↓reduceIte,ZO,ZN];exact q _ (S1.trans S2)
end
def rem(H:Hp)(x:Addr):Hp:=fun b=>if b=x then none else H b
theorem mr(H:Hp)(x:Addr):rem H x x=none:=if_pos rfl
theorem oy{H:Hp}{x b:Addr}(h:b≠x):rem H x b=H b:=if_neg h
theorem dj(H:Hp)(x:Addr):Same (rem H x) H:=fun b u h=>by
  by_cases e:b=x
  . rw[e,mr]at h;cases h
  . rwa [oy e]at h
theorem d7{H H':Hp}{x:Addr}(S:Same H H')(hx:H x=none):Same H (rem H' x):=fun b u h=>by
  rw[oy (fun e=>by rw[e,hx]at h;cases h)];exact S b u h
theorem dg{H H':Hp}{x:Addr}(S:Same H H'):Same (rem H x) (rem H' x):=d7 ((dj H x).trans S) (mr H x)
section
variable{H:Hp}{x C dx:Addr}{fs:List (Str×V)}
theorem sv{b:Addr}{ys:List V}(hx:H x=some (.ins C dx fs))(h:H b=some (.tup ys)):rem H x b=some (.tup ys):=by
  rw[oy (fun e=>by rw[e,hx]at h;cases h)];exact h
theorem qy{b:Addr}{ys:List V}(hx:H x=some (.ins C dx fs))(h:H b=some (.lst ys)):rem H x b=some (.lst ys):=by
  rw[oy (fun e=>by rw[e,hx]at h;cases h)];exact h
theorem zg2{b:Addr}{ys:List (List Key×V)}(hx:H x=some (.ins C dx fs))(h:H b=some (.dT ys)):rem H x b=some (.dT ys):=by
  rw[oy (fun e=>by rw[e,hx]at h;cases h)];exact h
theorem HHouse.rem{p o h:Addr}{hs:List Addr}{outs:List Str}{ds:List HD}(hx:H x=some (.ins C dx fs))(q:HHouse H p o h hs outs ds):HHouse (rem H x) p o h hs outs ds:=by
  refine⟨sv hx q.tup,sv hx q.outs,sv hx q.hands,q.hand.1,fun i t d e1 e2 => ?_⟩;obtain⟨w,g,gs,k⟩:=q.hand.2 i t d e1 e2;exact⟨w,g,gs,sv hx k.tup,sv hx k.words,sv hx k.grid,k.len,fun j r ns e3 e4=>sv hx (k.row j r ns e3 e4)⟩
theorem HandsL.rem{b:Addr}{xs:List HX}{ds:List HD}(hx:H x=some (.ins C dx fs))(q:HandsL H b xs ds):HandsL (rem H x) b xs ds :=
  ⟨qy hx q.at',q.len,fun i y d e1 e2=>by
    have k:=q.hand i y d e1 e2
    exact⟨sv hx k.tup,qy hx k.words,qy hx k.grid,k.len,fun j r ns e3 e4=>qy hx (k.row j r ns e3 e4)⟩⟩
theorem Weigh.rem{b o l m:Addr}{xs:List HX}{ds:List HD}{outs:List Str}{ws hc:List Int}(hx:H x=some (.ins C dx fs))(h:Weigh H b o l m xs ds outs ws hc):Weigh (rem H x) b o l m xs ds outs ws hc :=
  ⟨h.hL.rem hx,h.hOk,h.G,qy hx h.ho,qy hx h.hl,h.lw,h.hw,h.w1,qy hx h.hm,h.lh,h.hh⟩
end
theorem fc{b r:Str}(hb:b.length<=10)(hr:r.length<=10000):(yp b r).length<=sizeLine:=by
  rw[i7];exact Zd (show _<=10011 by omega) (by decide)
section
variable{a:Ad}{K:Fg}{mg:Str->Option Value}{Sr Sb Sd:Sp}{H:Hp}{Q:VK}{E:XK}{x dx:Addr}{outs:List Str}{ds:List HD}
theorem iw {h t:V} (hx:H x=some (xu a.Desk dx h t)) (G:GoodHouse outs ds) (og:∀z∈outs,GoodN z) (o4:outs.length<=4) (hOk:vh outs.length ds) (q:∀H' p o' hh hs,Same (rem H x) H'->H' x=some (xu a.Desk dx (.ref p) .non)->HHouse H' p o' hh hs outs ds->Q (.str "ok") H'):pi a K a.Desk Sr Sb Sd [.ref x,.str (yp "house" (vy outs ds))] H Q E:=by
  have g:=wz (b := "house") (r:=vy outs ds) (by decide +kernel) (by decide +kernel) (fc (by decide +kernel) (by have:=(jx og o4 hOk).2;omega));refine⟨x,dx,h,t,_,rfl,hx,.inr ⟨_,rfl,g.1,.inl ⟨g.2.1,outs,ds,g.2.2,G,zk5 og o4 hOk,fun H1 p o' hh hs S1 hH => ?_⟩⟩⟩;have hx1:=S1 _ _ hx;have S2:Same (rem H1 x) (upd (upd H1 x (xu a.Desk dx (.ref p) t)) x (xu a.Desk dx (.ref p) .non)):=Same.upd (Same.upd (dj H1 x) (mr H1 x)) (mr H1 x);exact q _ p o' hh hs ((dg S1).trans S2) zn ((HHouse.rem hx1 hH).mono S2)
theorem zfb (c_Desk:ug K mg "Desk" a.Desk "Desk.__init__" yn ["self"] ["house", "table"]) {p:Addr} {tb:V} {kvs:List (List Key×V)} {H1:Hp} {d:Addr} (S1:Same H H1) (hx:H x=some (xu a.Desk dx (.ref p) tb)) (hd:H1 d=some (.dT kvs)) (q:∀H' d,Same (rem H x) H'->H' x=some (xu a.Desk dx (.ref p) (.ref d))->H' d=some (.dT kvs)->Q (.str "ok") H'):layT K x Q (.ref d) H1:=by
  have hx1:=S1 _ _ hx;refine⟨_,_,_,hx1,c_Desk.cl,c_Desk.no "table" (by simp),by simp,?_⟩;rw[show putF "table" (V.ref d) [(("house" : Str),V.ref p),("table", tb)]=[(("house" : Str),V.ref p),("table", V.ref d)] from rfl];have S2:Same (rem H1 x) (upd H1 x (.ins a.Desk dx [(("house" : Str),V.ref p),("table", V.ref d)])):=Same.upd (dj H1 x) (mr H1 x);exact q _ d ((dg S1).trans S2) zn (S2 _ _ (zg2 hx1 hd))
theorem zdr (c_Desk:ug K mg "Desk" a.Desk "Desk.__init__" yn ["self"] ["house", "table"]) {p o' hh:Addr} {hs:List Addr} {tb:V} {ws hc:List Int} (hx:H x=some (xu a.Desk dx (.ref p) tb)) (hH:HHouse H p o' hh hs outs ds) (G:GoodHouse outs ds) (hw:NumsOk ws) (hh':NumsOk hc) (lw:ws.length=ds.length) (w1:∀i∈ws,1<=i) (lh:hc.length=outs.length) (q:∀H' d,Same (rem H x) H'->H' x=some (xu a.Desk dx (.ref p) (.ref d))->H' d=some (.dT (xr (u0 outs ds ws hc) (yl (ds.map HD.words))))->Q (.str "ok") H'):pi a K a.Desk Sr g8 Sd [.ref x,.str (yp "best" (x6 ws hc))] H Q E:=by
  have g:=wz (b := "best") (r:=x6 ws hc) (by decide +kernel) (by decide +kernel) (fc (by decide +kernel) (by have:=df hw hh';omega));refine⟨x,dx,_,tb,_,rfl,hx,.inr ⟨_,rfl,g.1,.inr (.inr (.inr (.inl ⟨g.2.1,p,rfl,fun H1 S1 => ?_⟩)))⟩⟩;rw[g.2.2];exact⟨p,o',hh,hs,outs,ds,ws,hc,rfl,hH.mono S1,G,hw,hh',lw,w1,lh,fun H2 d S2 hd=>zfb c_Desk (S1.trans S2) hx hd q⟩
theorem zjn (c_Desk:ug K mg "Desk" a.Desk "Desk.__init__" yn ["self"] ["house", "table"]) {p o' hh:Addr} {hs:List Addr} {tb:V} {z:Str} (hx:H x=some (xu a.Desk dx (.ref p) tb)) (hH:HHouse H p o' hh hs outs ds) (G:GoodHouse outs ds) (hz:z∈outs) (q:∀H' d,Same (rem H x) H'->H' x=some (xu a.Desk dx (.ref p) (.ref d))->H' d=some (.dT (xr (fun _=>z) (yl (ds.map HD.words))))->Q (.str "ok") H'):pi a K a.Desk zal Sb Sd [.ref x,.str (yp "rule" (yy z))] H Q E:=by
  have g:=wz (b := "rule") (r:=yy z) (by decide +kernel) (by decide +kernel) (fc (by decide +kernel) (by have:=zb8 (G.outsG z hz);omega));refine⟨x,dx,_,tb,_,rfl,hx,.inr ⟨_,rfl,g.1,.inr (.inr (.inl ⟨g.2.1,p,rfl,fun H1 S1 => ?_⟩))⟩⟩;rw[g.2.2];exact⟨p,o',hh,hs,outs,ds,z,rfl,hH.mono S1,G,hz,fun H2 d S2 hd=>zfb c_Desk (S1.trans S2) hx hd q⟩
end
def zbi(C:Addr):Sp:=fun vs H Q _=>∃(x dx p o' hh b o l m:Addr) (hs:List Addr) (tb:V) (xs:List HX) (ds:List HD) (outs:List Str) (ws hc:List Int),vs=[.ref x,.ref b,.ref o,.ref l,.ref m]/\H x=some (xu C dx (.ref p) tb)/\HHouse H p o' hh hs outs ds/\Weigh H b o l m xs ds outs ws hc/\∀H' d,Same (rem H x) H'->H' x=some (xu C dx (.ref p) (.ref d))->Q (.bl true) H'
section
variable{P:Program}{w:World}{K:Fg}{mg:Str->Option Value}{base:Heap}{a:Ad}{Sr:Sp}
theorem se (c_Desk:ug K mg "Desk" a.Desk "Desk.__init__" yn ["self"] ["house", "table"]) (yr:nr P w K mg base a.Desk "say" 48 ["self", "row"] (pi a K a.Desk Sr g8 ja)) (vi:FnAt P w K mg base "_law_best_row" 1 ["weights", "handicaps"] gm) (uw:FnAt P w K mg base "_law_dealt" 49 ["desk", "hands", "outcomes", "weights", "handicaps"] (dk a.Desk)) (D:zc K mg "_law_weighed" tm ["desk", "hands", "outcomes", "weights", "handicaps"]):FnAt P w K mg base "_law_weighed" 50 ["desk", "hands", "outcomes", "weights", "handicaps"] (zbi a.Desk):=by
  refine FnAt.of D zad (fun vs H Q E h => ?_) (fun f cdv A outer s H vs Q E hr h => ?_)
  . obtain⟨x,dx,p,o',hh,b,o,l,m,hs,tb,xs,ds,outs,ws,hc,rfl,_⟩:=h
    rfl
  . obtain⟨x,dx,p,o',hh,b,o,l,m,hs,tb,xs,ds,outs,ws,hc,rfl,hx,hH,W,q⟩:=h
    refine⟨_,(@ze _ _ _ _ _ (@yh _ _ _ _ _ _ _ _ (@yb _ _ _ _ _ _ _ _ ve (on (pv 0) c_Desk.cl yr (hr.mono (by decide)) (za (zj vi (hr.mono (by decide)) rfl (za (pv 3) (za (pv 4) (@zb _)))) (@zb _))) (@zm _ _ _ _) (yd _)) (@zd _ _ _ (@zp _ _ _ _ (@yz _ _ _ _))) (@z7 _)) (@zd _ _ _ (@zp _ _ _ _ (zj uw (hr.mono (by decide)) rfl (@za _ _ _ _ _ (pv 0) (@za _ _ _ _ _ (pv 1) (@za _ _ _ _ _ (pv 2) (@za _ _ _ _ _ (pv 3) (@za _ _ _ _ _ (pv 4) (@zb _) (zk nofun)) (zk nofun)) (zk nofun)) (zk nofun)) (zk nofun)))))),?_⟩;rw[show start ["desk", "hands", "outcomes", "weights", "handicaps"] [V.ref x,V.ref b,V.ref o,V.ref l,V.ref m]=[some (V.ref x),some (V.ref b),some (V.ref o),some (V.ref l),some (V.ref m)] from rfl];simp only[zg,zh,↓reduceIte];refine⟨_,_,hx,ux _ _,l,m,ws,hc,rfl,W.hl,W.hm,W.hw,W.hh,fun H1 S1 => ?_⟩;refine zdr c_Desk (S1 _ _ hx) (hH.mono S1) W.G W.hw W.hh W.lw W.w1 W.lh fun H2 d S2 hx2 hd=>⟨rfl,ite2 (fun h=>absurd h (by simp)) fun _ => ?_⟩
    have S02:=(dg (x:=x) S1).trans S2;exact⟨x,dx,p,d,b,o,l,m,xs,ds,outs,ws,hc,rfl,hx2,hd,(W.rem hx).mono S02,fun H3 S3=>q H3 d (S02.trans S3) (S3 _ _ hx2)⟩
end
theorem zgb {ws hc:List Int} (hw:NumsOk ws) (hh:NumsOk hc) {i:Nat} {y:V} (hy:[V.str (yp "best" (x6 ws hc)),V.str (Str.ofString "rule deal a"),V.str (Str.ofString "best"),V.str (Str.ofString "best 1"),V.str (Str.ofString "best x / y"),V.str (Str.ofString "rule"),V.str (Str.ofString "rule when")][i]? = some y):∃z,y=.str z/\su z/\z9 z ≠ "house" := by
  have few:∀z:Str,(decide (z.length<=100)&&decide (z9 z∈wo)&&decide (z9 z ≠ "verdict")&&decide (z9 z ≠ "house"))=true->su z/\z9 z ≠ "house" := fun z h=>by
    simp only[Bool.and_eq_true,decide_eq_true_eq]at h;exact⟨⟨Zd h.1.1.1 (by decide),h.1.1.2,fun e=>absurd e h.1.2⟩,h.2⟩
  have hm:=Zi hy;simp only[ZK,Zx,or_false]at hm
  rcases hm with rfl | rfl | rfl | rfl | rfl | rfl | rfl
  . have g:=wz (b := "best") (r:=x6 ws hc) (by decide +kernel) (by decide +kernel) (fc (by decide +kernel) (by have:=df hw hh;omega))
    exact⟨_,rfl,g.1,by rw[g.2.1];decide +kernel⟩
  all_goals exact⟨_,rfl,few _ (by decide +kernel)⟩
theorem zct{C x dx:Addr}{H:Hp}{Q:VK}{E:XK}(hxn:H x=none)(hdn:H dx=none)(q:∀H',Same H H'->H' x=some (xu C dx .non .non)->Q .non H'):zam C [.ref x] (upd (upd H dx (.own x)) x (.ins C dx [])) Q E :=
  ⟨x,dx,rfl,zn,q _ (Same.upd (Same.upd (Same.upd (Same.upd (Same.refl _) hdn) hxn) hxn) hxn) zn⟩
def PvSt7(st:L2.St)(H:Hp)(_:Nat)(σ:L2.St)(H':Hp):Prop:=Same H H'/\∃v:Option V,σ=st++[v]
def PvW7(H:Hp)(ws:List Int)(i:Nat)(ys:List V)(H':Hp):Prop:=H'=H/\ys=((ws.take i).map fun n=>1+n % 7).map V.int
theorem w7_ok{ws:List Int}(hw:NumsOk ws):NumsOk (ws.map fun n=>1+n % 7)/\∀i∈ws.map (fun n=>1+n % 7),1<=i:=by
  have h:∀i∈ws.map (fun n=>1+n % 7),1<=i/\i<=7:=fun i hi=>by
    obtain⟨n,_,rfl⟩:=Zp.mp hi;have:=xg n (show(0:Int)<7 by decide);omega
  exact⟨⟨by rw[Za];exact hw.len,fun n hn=>by have:=h n hn;omega⟩,fun n hn=>(h n hn).1⟩
theorem zh8(z:Str):Str.ofString "rule deal " ++ z=yp "rule" (yy z):=by
  rw[yp,<-zi5,show Str.ofString "rule deal " = ("rule" : Str)++Str.ofString " " ++ Str.ofString "deal " from by decide +kernel];simp only[Str.append_assoc]
section
variable{P:Program}{w:World}{K:Fg}{mg:Str->Option Value}{base:Heap}{a:Ad}
theorem law_fn (B:Bt mg) (c_Desk:ug K mg "Desk" a.Desk "Desk.__init__" yn ["self"] ["house", "table"]) (bz:MkAt P w K mg base "Desk" a.Desk 1 ["self"] (zam a.Desk)) (yr:nr P w K mg base a.Desk "say" 48 ["self", "row"] (pi a K a.Desk zal g8 ja)) (y7:FnAt P w K mg base "_law_cell" 1 ["script", "k"] (gd K)) (kz:FnAt P w K mg base "_law_hands" 2 ["script", "places", "top"] (zey K)) (vz:FnAt P w K mg base "_law_names" 1 ["cell", "many"] ai) (o6:FnAt P w K mg base "_law_weights" 2 ["script", "many"] (spWtL K)) (rk:FnAt P w K mg base "_law_handicaps" 2 ["script", "places"] (spHcL K)) (vi:FnAt P w K mg base "_law_best_row" 1 ["weights", "handicaps"] gm) (vg:FnAt P w K mg base "_law_no_stand" 49 ["desk", "row"] (gt a.Desk)) (vp:FnAt P w K mg base "_law_none" 50 ["desk", "hands"] (zgx a.Desk)) (wy:FnAt P w K mg base "_law_house_row" 1 ["outcomes", "hands"] cm) (qh:FnAt P w K mg base "_law_rows" 1 ["hands"] zaj) (uw:FnAt P w K mg base "_law_dealt" 49 ["desk", "hands", "outcomes", "weights", "handicaps"] (dk a.Desk)) (se:FnAt P w K mg base "_law_weighed" 50 ["desk", "hands", "outcomes", "weights", "handicaps"] (zbi a.Desk)) {f:Addr} {fd:FuncData} (F:Fun K "law" "law" g9 f fd):FnOk P w K mg base CX0 52 f fd ["script"] (zfy K):=by
  refine F.ok sc_law (fun vs H Q E h => ?_) (fun cdv A outer s H vs Q E hr h => ?_)
  . obtain⟨b,ns,rfl,_⟩:=h
    rfl
  . obtain⟨sc,ns,rfl,hS,hlen,q⟩:=h
    refine⟨_,(@ze _ _ _ _ _ (zz (i:=1) sc_law.nd rfl (Or.inl rfl) (@zt _ _ _ _ _ _ _ _ wf (@zi _ _ _ _) (@zt _ _ _ _ _ _ _ _ xt (zj y7 (hr.mono (by decide)) rfl (za (pv 0) (za (@zi _ _ _ _) (@zb _)))) (@zi _ _ _ _)))) (@ze _ _ _ _ _ (zz (i:=2) sc_law.nd rfl (Or.inl rfl) (zj kz (hr.mono (by decide)) rfl (za (pv 0) (za (pv 1) (za (@zt _ _ _ _ _ _ _ _ jc (@zi _ _ _ _) (@zi _ _ _ _)) (@zb _)))))) (@ze _ _ _ _ _ (zz (i:=3) sc_law.nd rfl (Or.inl rfl) (zj vz (hr.mono (by decide)) rfl (za (zj y7 (hr.mono (by decide)) rfl (za (pv 0) (za (@zi _ _ _ _) (@zb _)))) (za (pv 1) (@zb _))))) (@ze _ _ _ _ _ (zz (i:=4) sc_law.nd rfl (Or.inl rfl) (zj o6 (hr.mono (by decide)) rfl (za (pv 0) (za (zx yf rfl B.len xi (za (pv 2) (@zb _))) (@zb _))))) (@ze _ _ _ _ _ (zz (i:=5) sc_law.nd rfl (Or.inl rfl) (zj rk (hr.mono (by decide)) rfl (za (pv 0) (za (pv 1) (@zb _))))) (@ze _ _ _ _ _ (zz (i:=6) sc_law.nd rfl (Or.inl rfl) (zhf bz (hr.mono (by decide)) rfl)) (@ze _ _ _ _ _ (zz (i:=7) sc_law.nd rfl (Or.inl rfl) (zhf bz (hr.mono (by decide)) rfl)) (@ze _ _ _ _ _ (zz (i:=8) sc_law.nd rfl (Or.inl rfl) (zj vi (hr.mono (by decide)) rfl (za (pv 4) (za (pv 5) (@zb _))))) (@ze _ _ _ _ _ (xp PassesOwn.never rfl (@ye _ _ _ _ (@we _ _ _ _ (@za _ _ _ _ _ (pv 8) (@za _ _ _ _ _ (@zm _ _ _ _) (@za _ _ _ _ _ (@zm _ _ _ _) (@za _ _ _ _ _ (@zm _ _ _ _) (@za _ _ _ _ _ (@zm _ _ _ _) (@za _ _ _ _ _ (@zm _ _ _ _) (@za _ _ _ _ _ (@zm _ _ _ _) (@zb _) (zk nofun)) (zk nofun)) (zk nofun)) (zk nofun)) (zk nofun)) (zk nofun)) (zk nofun)))) (zw (i:=9) sc_law.nd rfl (Or.inl rfl)) (@zd _ _ _ (@yh _ _ _ _ _ _ _ _ (@yv _ _ _ _ (yx (zj vg (hr.mono (by decide)) rfl (za (pv 6) (za (pv 9) (@zb _)))))) (@zd _ _ _ (@zp _ _ _ _ (@yz _ _ _ _))) (@z7 _)))) (@ze _ _ _ _ _ (@yh _ _ _ _ _ _ _ _ (@yv _ _ _ _ (yx (zj vp (hr.mono (by decide)) rfl (za (pv 6) (za (pv 2) (@zb _)))))) (@zd _ _ _ (@zp _ _ _ _ (@yz _ _ _ _))) (@z7 _)) (@ze _ _ _ _ _ (@yh _ _ _ _ _ _ _ _ (PW.pt (@ui _ _ _ _ _ _ _ (@yb _ _ _ _ _ _ _ _ ve (on (pv 6) c_Desk.cl yr (hr.mono (by decide)) (za (zj wy (hr.mono (by decide)) rfl (za (pv 3) (za (pv 2) (@zb _)))) (@zb _))) (@zm _ _ _ _) (yd _)) (@vq _ _ _ _ (@yv _ _ _ _ (yx (zj vp (hr.mono (by decide)) rfl (za (pv 6) (za (pv 2) (@zb _))))))))) (@zd _ _ _ (@zp _ _ _ _ (@yz _ _ _ _))) (@z7 _)) (@ze _ _ _ _ _ (@yh _ _ _ _ _ _ _ _ (PW.pt (@ui _ _ _ _ _ _ _ (@yb _ _ _ _ _ _ _ _ ve (on (pv 6) c_Desk.cl yr (hr.mono (by decide)) (za (pv 8) (@zb _))) (@zm _ _ _ _) (yd _)) (@vq _ _ _ _ (@yv _ _ _ _ (yx (zj vp (hr.mono (by decide)) rfl (za (pv 7) (za (pv 2) (@zb _))))))))) (@zd _ _ _ (@zp _ _ _ _ (@yz _ _ _ _))) (@z7 _)) (@ze _ _ _ _ _ (@yh _ _ _ _ _ _ _ _ (PW.pt (@ui _ _ _ _ _ _ _ (@yb _ _ _ _ _ _ _ _ ve (on (pv 7) c_Desk.cl yr (hr.mono (by decide)) (za (zj wy (hr.mono (by decide)) rfl (za (pv 3) (za (pv 2) (@zb _)))) (@zb _))) (@zm _ _ _ _) (yd _)) (@vq _ _ _ _ (@yv _ _ _ _ (yx (zj vp (hr.mono (by decide)) rfl (za (pv 7) (za (pv 2) (@zb _))))))))) (@zd _ _ _ (@zp _ _ _ _ (@yz _ _ _ _))) (@z7 _)) (@ze _ _ _ _ _ (@yh _ _ _ _ _ _ _ _ (@yv _ _ _ _ (yx (zj uw (hr.mono (by decide)) rfl (@za _ _ _ _ _ (pv 6) (@za _ _ _ _ _ (pv 2) (@za _ _ _ _ _ (pv 3) (@za _ _ _ _ _ (pv 4) (@za _ _ _ _ _ (pv 5) (@zb _) (zk nofun)) (zk nofun)) (zk nofun)) (zk nofun)) (zk nofun))))) (@zd _ _ _ (@zp _ _ _ _ (@yz _ _ _ _))) (@z7 _)) (@ze _ _ _ _ _ (@yh _ _ _ _ _ _ _ _ (@yv _ _ _ _ (yx (zj se (hr.mono (by decide)) rfl (@za _ _ _ _ _ (pv 6) (@za _ _ _ _ _ (pv 2) (@za _ _ _ _ _ (pv 3) (@za _ _ _ _ _ (yj ["one"] ["script", "places", "hands", "outcomes", "weights", "handicaps", "desk", "other", "best_row", "row"] rfl (@ye _ _ _ _ (pv 4)) (fun _=>(zw (i:=0) (show(["one", "script", "places", "hands", "outcomes", "weights", "handicaps", "desk", "other", "best_row", "row"]:List Str).Nodup by decide +kernel) rfl (Or.inl rfl))) (fun _=>(@yi _)) (fun _=>(@zt _ _ _ _ _ _ _ _ wf (@zi _ _ _ _) (@zt _ _ _ _ _ _ _ _ xt (pv 0) (@zi _ _ _ _)))) rfl (by decide +kernel) rfl rfl) (@za _ _ _ _ _ (@pe_way _ _ _ _ _ _ _ (pv 5) (@mj _ _ _ (@cp _ _ _ _ _ _ gk (@zi _ _ _ _)))) (@zb _) (zk nofun)) (zk nofun)) (zk nofun)) (zk nofun)) (zk nofun))))) (@zd _ _ _ (@zp _ _ _ _ (@yz _ _ _ _))) (@z7 _)) (@ze _ _ _ _ _ (@yh _ _ _ _ _ _ _ _ (@yb _ _ _ _ _ _ _ _ ve (on (pv 6) c_Desk.cl yr (hr.mono (by decide)) (za (@zt _ _ _ _ _ _ _ _ xf (@zm _ _ _ _) (@z0 _ _ _ _ _ _ _ ya (pv 3) (@cp _ _ _ _ _ _ gk (@zi _ _ _ _)) (fun _ _=>rfl))) (@zb _))) (@zm _ _ _ _) (yd _)) (@zd _ _ _ (@zp _ _ _ _ (@yz _ _ _ _))) (@z7 _)) (@ze _ _ _ _ _ (xp PassesOwn.never rfl (@ye _ _ _ _ (zj qh (hr.mono (by decide)) rfl (za (pv 2) (@zb _)))) (zw (i:=9) sc_law.nd rfl (Or.inl rfl)) (@zd _ _ _ (@yh _ _ _ _ _ _ _ _ (@yb _ _ _ _ _ _ _ _ ve (on (pv 6) c_Desk.cl yr (hr.mono (by decide)) (za (@zt _ _ _ _ _ _ _ _ xf (@zm _ _ _ _) (y8 PySem.F.plainAttrs_str PySem.F.slot_str_join PySem.F.type_str_join zc3 (@zm _ _ _ _) (za (pv 9) (@zb _)))) (@zb _))) (@z0 _ _ _ _ _ _ _ ya (pv 3) (@cp _ _ _ _ _ _ gk (@zi _ _ _ _)) (fun _ _=>rfl)) (yd _)) (@zd _ _ _ (@zp _ _ _ _ (@yz _ _ _ _))) (@z7 _)))) (@ze _ _ _ _ _ (@yh _ _ _ _ _ _ _ _ (@yv _ _ _ _ (yx (zj se (hr.mono (by decide)) rfl (@za _ _ _ _ _ (pv 6) (@za _ _ _ _ _ (pv 2) (@za _ _ _ _ _ (pv 3) (@za _ _ _ _ _ (pv 4) (@za _ _ _ _ _ (pv 5) (@zb _) (zk nofun)) (zk nofun)) (zk nofun)) (zk nofun)) (zk nofun))))) (@zd _ _ _ (@zp _ _ _ _ (@yz _ _ _ _))) (@z7 _)) (@zd _ _ _ (@zp _ _ _ _ (@uy _ _ _ _ _ _ _ (@um _ _ _ _ _ _ _ _ ua (on (pv 6) c_Desk.cl yr (hr.mono (by decide)) (za (zj wy (hr.mono (by decide)) rfl (za (pv 3) (za (pv 2) (@zb _)))) (@zb _))) (@zm _ _ _ _) (yd _)) (@u9 _ _ _ _ _ (zj vp (hr.mono (by decide)) rfl (za (pv 6) (za (pv 2) (@zb _)))))))))))))))))))))))))),?_⟩;rw[show start ["script", "places", "hands", "outcomes", "weights", "handicaps", "desk", "other", "best_row", "row"] [V.ref sc]=[some (V.ref sc),none,none,none,none,none,none,none,none,none] from rfl];refine zb6 fun T hT => ?_
    simp only[zg,zh,↓reduceIte];refine⟨sc,ns,0,rfl,hS,by decide,fun c0 => ?_⟩;have h4:=xg c0 (show(0:Int)<4 by decide);obtain⟨pl,epl⟩:∃pl:Nat,1+c0 % 4=pl:=⟨(1+c0 % 4).toNat,by omega⟩;refine⟨c0,rfl,by decide,⟨by decide,by decide,by decide⟩,?_⟩;rw[epl];refine⟨sc,ns,pl,_,rfl,hS,by omega,by omega,by decide,by decide,fun H1 b xs ds S1 hL hOk => ?_⟩;refine⟨sc,ns,2,rfl,S1.seq hS,by decide,fun c2=>⟨c2,pl,rfl,by omega,fun H2 o outs S2 _ ho lo og od => ?_⟩⟩;have l3:=hOk.len;have hL2:=hL.mono S2;refine⟨b,rfl,_,.inl (.of hL2.at'),?_⟩;rw[Za,hL.len];refine⟨sc,ns,ds.length,rfl,(S1.trans S2).seq hS,by omega,by omega,fun H3 l ws S3 hl lw hw w1 => ?_⟩;rw[hT];clear hT T;refine zb6 fun T hT => ?_
    simp only[zg,zh,↓reduceIte];have S03:=S1.trans (S2.trans S3);refine⟨sc,ns,pl,rfl,S03.seq hS,by omega,by omega,fun H4 m hc S4 hm lh hh x dx hxn hdn hne=>zct hxn hdn fun H5 S5 hx5=>⟨rfl,fun y dy hyn hdyn hney=>zct hyn hdyn fun H6 S6 hy6=>⟨rfl,?_⟩⟩⟩;rw[<-lo]at hOk lh;have G:=zdt (by omega) og od hOk;have W4:Weigh H4 b o l m xs ds outs ws hc:=⟨hL2.mono (S3.trans S4),hOk,G,(S3.trans S4) _ _ ho,S4 _ _ hl,lw,hw,w1,hm,lh,hh⟩;have hxy:x≠y:=fun e=>by rw[e]at hx5;rw[hx5]at hyn;cases hyn
    have hy4:H4 y=none:=S5.free hyn;have S46:=S5.trans S6;have W6:=W4.mono S46;have hx6:=S6 _ _ hx5;refine⟨l,m,ws,hc,rfl,W6.hl,W6.hm,hw,hh,fun H7 S7 => ?_⟩;have W7:=W6.mono S7;have hx7:=S7 _ _ hx6;have hy7:=S7 _ _ hy6;have S47:=S46.trans S7;clear S5 S6 S46 W6 hx6 hy6 hx5 hyn hdyn hney hne hdn S7 hS S03 S3 S2 S1 hL2 hL ho hl hm;rw[hT];clear hT T;refine hide2 fun T hT => ?_
    simp only[zg,zh,↓reduceIte];refine⟨by decide,fun lr hlr => ?_⟩;obtain⟨S8,u8⟩:=lay hlr (.lst [V.str (yp "best" (x6 ws hc)),V.str (Str.ofString "rule deal a"),V.str (Str.ofString "best"),V.str (Str.ofString "best 1"),V.str (Str.ofString "best x / y"),V.str (Str.ofString "rule"),V.str (Str.ofString "rule when")]);generalize upd H7 lr (.lst [V.str (yp "best" (x6 ws hc)),V.str (Str.ofString "rule deal a"),V.str (Str.ofString "best"),V.str (Str.ofString "best 1"),V.str (Str.ofString "best x / y"),V.str (Str.ofString "rule"),V.str (Str.ofString "rule when")])=H8 at *;refine⟨⟨_,.of u8⟩,?_⟩;refine wn (xs:=[V.str (yp "best" (x6 ws hc)),V.str (Str.ofString "rule deal a"),V.str (Str.ofString "best"),V.str (Str.ofString "best 1"),V.str (Str.ofString "best x / y"),V.str (Str.ofString "rule"),V.str (Str.ofString "rule when")]) (PvSt7 [some (V.ref sc),some (V.int ↑pl),some (V.ref b),some (V.ref o),some (V.ref l),some (V.ref m),some (V.ref x),some (V.ref y),some (V.str (yp "best" (x6 ws hc)))] H8) ⟨Same.refl _,_,rfl⟩ ?_ ?_ ?_
    . rintro i σ H9 hi ⟨S9,v,rfl⟩
      exact .of (S9 _ _ u8)
    . rintro i r σ H9 hr9 ⟨S9,v,rfl⟩
      obtain⟨z,rfl,Gz,nz⟩:=zgb hw hh hr9;simp only[zg,zh,↓reduceIte,ZO,ZN];exact⟨x,dx,.non,.non,z,rfl,(S8.trans S9) _ _ hx7,Gz,.inl ⟨nz,rfl⟩,fun H10 S10=>⟨true,rfl,iteF ⟨S9.trans S10,_,rfl⟩⟩⟩
    . rintro σ H9 ⟨S9,v,rfl⟩
      have S79:=S8.trans S9;have hx9:=S79 _ _ hx7;have hy9:=S79 _ _ hy7;have S49:=S47.trans S79;clear S79 S8 S9 u8 hx7 hy7 S47 W7;simp only[zg,zh,↓reduceIte,ZO,ZN];refine⟨x,dx,.non,.non,b,xs,ds,outs.length,rfl,hx9,.inl rfl,(W4.mono S49).hL,hOk,fun H10 S10=>⟨true,rfl,iteF ?_⟩⟩;have hx10:=S10 _ _ hx9;have hy10:=S10 _ _ hy9;have S410:=S49.trans S10;clear hx9 hy9 S49 S10;rw[hT];clear hT T;refine rm fun T hT => ?_
      simp only[zg,zh,↓reduceIte];have o4:outs.length<=4:=by omega
      have rx:∀{H H':Hp},Same H4 H->Same (rem H x) H'->Same H4 H':=fun S S'=>(d7 S hxn).trans S'
      have ry:∀{H H':Hp},Same H4 H->Same (rem H y) H'->Same H4 H':=fun S S'=>(d7 S hy4).trans S'
      have W10:=W4.mono S410;refine⟨_,_,hx10,ux _ _,o,b,outs,xs,ds,rfl,W10.ho,W10.hL,og,o4,hOk,fun H11 S11 => ?_⟩;refine iw (S11 _ _ hx10) G og o4 hOk fun H12 p o' hh' hs S12 hx12 hH12=>⟨rfl,ite2 (fun h=>absurd h (by simp)) fun _ => ?_⟩
      have hy12:H12 y=some (xu a.Desk dy .non .non):=S12 _ _ (by rw[oy (Ne.symm hxy)];exact S11 _ _ hy10);have S412:=rx (S410.trans S11) S12;have W12:=W4.mono S412;clear S12 S11 W10 hx10 hy10 S410;refine⟨x,dx,.ref p,.non,b,xs,ds,outs.length,rfl,hx12,.inr ⟨⟨p,rfl⟩,rfl⟩,W12.hL,hOk,fun H13 S13=>⟨true,rfl,iteF ?_⟩⟩;have hx13:=S13 _ _ hx12;have hy13:=S13 _ _ hy12;have hH13:=hH12.mono S13;have S413:=S412.trans S13;clear hx12 hy12 hH12 S412 W12 S13;rw[hT];clear hT T;refine rm fun T hT => ?_
      simp only[zg,zh,↓reduceIte];refine⟨_,_,hx13,ux _ _,?_⟩;refine zdr c_Desk hx13 hH13 G hw hh lw w1 lh fun H14 d S14 hx14 hd14=>⟨rfl,ite2 (fun h=>absurd h (by simp)) fun _ => ?_⟩
      have hy14:H14 y=some (xu a.Desk dy .non .non):=S14 _ _ (by rw[oy (Ne.symm hxy)];exact hy13);have hH14:=(HHouse.rem hx13 hH13).mono S14;have S414:=rx S413 S14;clear S14 hx13 hy13 hH13 S413;refine⟨y,dy,.non,.non,b,xs,ds,outs.length,rfl,hy14,.inl rfl,(W4.mono S414).hL,hOk,fun H15 S15=>⟨true,rfl,iteF ?_⟩⟩;have hx15:=S15 _ _ hx14;have hy15:=S15 _ _ hy14;have hH15:=hH14.mono S15;have hd15:=S15 _ _ hd14;have S415:=S414.trans S15;clear hx14 hy14 hH14 hd14 S414 S15;rw[hT];clear hT T;refine rm fun T hT => ?_
      simp only[zg,zh,↓reduceIte];have W15:=W4.mono S415;refine⟨_,_,hy15,ux _ _,o,b,outs,xs,ds,rfl,W15.ho,W15.hL,og,o4,hOk,fun H16 S16 => ?_⟩;refine iw (S16 _ _ hy15) G og o4 hOk fun H17 p2 o2 hh2 hs2 S17 hy17 hH17=>⟨rfl,ite2 (fun h=>absurd h (by simp)) fun _ => ?_⟩
      have hx17:H17 x=some (xu a.Desk dx (.ref p) (.ref d)):=S17 _ _ (by rw[oy hxy];exact S16 _ _ hx15);have hd17:=S17 _ _ (zg2 (S16 _ _ hy15) (S16 _ _ hd15));have hP17:=(HHouse.rem (S16 _ _ hy15) (hH15.mono S16)).mono S17;have S417:=ry (S415.trans S16) S17;clear S17 S16 W15 hx15 hy15 hH15 hd15 S415 hH17;refine⟨y,dy,.ref p2,.non,b,xs,ds,outs.length,rfl,hy17,.inr ⟨⟨p2,rfl⟩,rfl⟩,(W4.mono S417).hL,hOk,fun H18 S18=>⟨true,rfl,iteF ?_⟩⟩;have hx18:=S18 _ _ hx17;have hd18:=S18 _ _ hd17;have hP18:=hP17.mono S18;have S418:=S417.trans S18;clear hy17 hx17 hd17 hP17 S417 S18 hy4 ry;rw[hT];clear hT T;refine rm fun T hT => ?_
      simp only[zg,zh,↓reduceIte];refine⟨x,dx,p,d,b,o,l,m,xs,ds,outs,ws,hc,rfl,hx18,hd18,W4.mono S418,fun H19 S19=>⟨true,rfl,iteF ?_⟩⟩;have hx19:=S19 _ _ hx18;have hP19:=hP18.mono S19;have S419:=S418.trans S19;clear hx18 hd18 hP18 S418 S19;rw[hT];clear hT T;refine rm fun T hT => ?_
      simp only[zg,zh,↓reduceIte];have W19:=W4.mono S419;refine⟨⟨_,.of W19.hl⟩,fun dd => ?_⟩;refine ym (xs:=ws.map V.int) (PvW7 H19 ws) ⟨rfl,rfl⟩ ?_ ?_ ?_
      . rintro i ys H20 hi ⟨rfl,rfl⟩
        refine⟨?_,.of W19.hl⟩;rw[Za,Za,Zj];have:=hw.len;exact Zd (show _<=9 by omega) (by decide)
      . rintro i u ys H20 hu ⟨rfl,rfl⟩
        obtain⟨n,hn,rfl⟩:=dc hu;simp only[zg,zh,↓reduceIte];refine⟨by decide,rfl,?_⟩;rw[Zq,hn,Zn,Zn];rfl
      . rintro ys H20 ⟨rfl,rfl⟩ l2 hl2
        rw[Za,Zt];obtain⟨S20,u20⟩:=lay hl2 (.lst ((ws.map fun n=>1+n % 7).map V.int));generalize upd H20 l2 (.lst ((ws.map fun n=>1+n % 7).map V.int))=H21 at *;refine⟨false,rfl,_,.of (S20 _ _ W19.hm),fun m2 hm2 => ?_⟩;rw[if_neg (by decide),<-List.map_reverse];obtain⟨S21,u21⟩:=lay hm2 (.lst (hc.reverse.map V.int));generalize upd H21 m2 (.lst (hc.reverse.map V.int))=H22 at *;have S2022:=S20.trans S21;have w7:=w7_ok hw;have W22:Weigh H22 b o l2 m2 xs ds outs (ws.map fun n=>1+n % 7) hc.reverse:=⟨(W19.mono S2022).hL,hOk,G,(W19.mono S2022).ho,S21 _ _ u20,by rw[Za];exact lw,w7.1,w7.2,u21,by rw[YH];exact lh,⟨by rw[YH];exact hh.len,fun n hn=>hh.good n (List.mem_reverse.mp hn)⟩⟩;have hx22:=S2022 _ _ hx19;have hP22:=hP19.mono S2022;have S422:=S419.trans S2022;refine⟨x,dx,p,o',hh',b,o,l2,m2,hs,_,xs,ds,outs,_,_,rfl,hx22,hP22,W22,fun H23 d2 S23 hx23=>⟨true,rfl,iteF ?_⟩⟩;have hP23:=(HHouse.rem hx22 hP22).mono S23;have S423:=rx S422 S23;clear S23 hx22 hP22 S422 W22 S2022 S20 S21 u20 u21 W19 hx19 hP19 S419;rw[hT];clear hT T;refine rm fun T hT => ?_
        simp only[zg,zh,↓reduceIte];have ho23:=(W4.mono S423).ho;obtain⟨zl,ezl⟩:∃z,outs[outs.length-1]? = some z:=⟨outs[outs.length-1]'(by omega),Zb (by omega)⟩;have mzl:=Zi ezl;have at1:atI (outs.map V.str) (-1)=some (V.str zl):=zem (k:=1) (by decide) (by rw[Za];omega) (by rw[Za,Ze,ezl];rfl);refine⟨_,_,hx23,ux _ _,_,.of ho23,_,at1,_,rfl,Zd (Yk (og _ mzl).2.1 _) (by decide +kernel),?_⟩;rw[zh8];refine zjn c_Desk hx23 hP23 G mzl fun H24 d3 S24 hx24 hd24=>⟨rfl,ite2 (fun h=>absurd h (by simp)) fun _ => ?_⟩
        have hP24:=(HHouse.rem hx23 hP23).mono S24;have S424:=rx S423 S24;clear S24 hx23 hP23 S423 ho23;rw[hT];clear hT T;refine rm fun T hT => ?_
        simp only[zg,zh,↓reduceIte];have W24:=W4.mono S424;have l3:=hOk.len;refine⟨b,xs,ds,rfl,W24.hL,by omega,fun d hd=>by have:=(hOk.hand d hd).len;omega,fun H25 lr2 as S25 hR=>⟨lr2,rfl,⟨_,.of hR.lst⟩,?_⟩⟩;refine wn (xs:=as.map V.ref) (PvSt7 [some (V.ref sc),some (V.int ↑pl),some (V.ref b),some (V.ref o),some (V.ref l),some (V.ref m),some (V.ref x),some (V.ref y),some (V.str (yp "best" (x6 ws hc)))] H25) ⟨Same.refl _,_,rfl⟩ ?_ ?_ ?_
        . rintro k σ H26 hk ⟨S26,u,rfl⟩
          exact .of (S26 _ _ hR.lst)
        . rintro k r0 σ H26 hr0 ⟨S26,u,rfl⟩
          obtain⟨r,er,rfl⟩:=m7 hr0;have hk:k<(yl (ds.map HD.words)).length:=by have:=(Zc.mp er).1;have:=hR.tups.len;omega
          have hrm:=Zl hk;have hr26:=S26 _ _ (hR.tups.at' k r _ er (Zb hk));generalize (yl (ds.map HD.words))[k]=row at *;have rj:=zcm hOk hrm;have S2426:=S25.trans S26;have hx26:=S2426 _ _ hx24;simp only[zg,zh,↓reduceIte,ZO,ZN];refine⟨_,_,hx26,ux _ _,rfl,row,.of hr26,rj.1,?_⟩;rw[vb,zdj];refine⟨rj.2,zc8 hx26 (S2426 _ _ hd24) hOk hrm fun H27 S27 => ?_⟩;exact⟨_,.of ((S2426.trans S27) _ _ W24.ho),_,at1,rfl,ite2 (fun h=>absurd h (by simp)) fun _=>⟨S26.trans S27,_,rfl⟩⟩
        . rintro σ H26 ⟨S26,u,rfl⟩
          have S2426:=S25.trans S26;have hx26:=S2426 _ _ hx24;have hP26:=hP24.mono S2426;have S426:=S424.trans S2426;clear S2426 S25 S26 hx24 hP24 S424 W24 hR hd24
          show T _ _ _
          rw[hT];clear hT T;refine rm fun T hT => ?_
          simp only[zg,zh,↓reduceIte,ZO,ZN];refine⟨x,dx,p,o',hh',b,o,l,m,hs,_,xs,ds,outs,ws,hc,rfl,hx26,hP26,W4.mono S426,fun H28 d4 S28 hx28=>⟨true,rfl,iteF ?_⟩⟩;have S428:=rx S426 S28;clear S28 hx26 hP26 S426;rw[hT];clear hT T;simp only[zg,zh,↓reduceIte];have W28:=W4.mono S428;refine⟨_,_,hx28,ux _ _,o,b,outs,xs,ds,rfl,W28.ho,W28.hL,og,o4,hOk,fun H29 S29 => ?_⟩;refine iw (S29 _ _ hx28) G og o4 hOk fun H30 p3 o3 hh3 hs3 S30 hx30 hH30=>⟨rfl,ite2 (fun _ => ?_) fun h=>absurd (by decide) h⟩
          have S430:=rx (S428.trans S29) S30;exact⟨x,dx,.ref p3,.non,b,xs,ds,outs.length,rfl,hx30,.inr ⟨⟨p3,rfl⟩,rfl⟩,(W4.mono S430).hL,hOk,fun H31 S31=>q _⟩
end
section
variable{P:Program}{w:World}{K:Fg}{mg:Str->Option Value}{base:Heap}{a:Ad}
theorem law_ok (B:Bt mg) (C:Ct K mg a) (d_is_whole:zc K mg "is_whole" mf ["thing"]) (d_is_bounded:zc K mg "is_bounded" qc ["thing"]) (d_is_grid_row:zc K mg "is_grid_row" tw ["thing", "width"]) (d_is_name:zc K mg "is_name" l6 ["thing"]) (d_are_names:zc K mg "are_names" q8 ["thing", "most"]) (d_are_worths:zc K mg "are_worths" r6 ["thing", "height", "width"]) (d_is_hand:zc K mg "is_hand" kh ["thing", "width"]) (d_name_of:zc K mg "name_of" ka ["hand"]) (d_names_of:zc K mg "names_of" ni ["hands"]) (d_words_of_hand:zc K mg "words_of_hand" w6 ["hand"]) (d_worths_of_hand:zc K mg "worths_of_hand" wv ["hand"]) (d_worths_by:zc K mg "worths_by" px ["hand", "word"]) (d_count_of_rows:zc K mg "count_of_rows" v5 ["hands"]) (d_makes_house:zc K mg "makes_house" tu ["outcomes", "hands"]) (d_kept_hand:zc K mg "kept_hand" p0 ["hand"]) (d_house_of:zc K mg "house_of" nu ["outcomes", "hands"]) (d_outcomes_of:zc K mg "outcomes_of" sf ["house"]) (d_hands_of:zc K mg "hands_of" n0 ["house"]) (d_with_each:zc K mg "with_each" p6 ["rows", "words"]) (d_rows_over:zc K mg "rows_over" ph ["hands"]) (d_rows_of:zc K mg "rows_of" kn ["house"]) (d_are_weights:zc K mg "are_weights" tq ["house", "thing"]) (d_are_handicaps:zc K mg "are_handicaps" v7 ["house", "thing"]) (d_refuse_weights:zc K mg "refuse_weights" vo ["house", "weights", "handicaps"]) (d_part_of:zc K mg "part_of" ki ["hand", "weight", "word"]) (d_parts_of:zc K mg "parts_of" ny ["house", "weights", "row"]) (d_scores:zc K mg "scores" ic ["house", "weights", "handicaps", "row"]) (d_best_place:zc K mg "best_place" rq ["totals"]) (d_best_outcome:zc K mg "best_outcome" uo ["house", "weights", "handicaps", "row"]) (d_best_table:zc K mg "best_table" qj ["house", "weights", "handicaps"]) (d_holds:zc K mg "holds" jb ["condition", "row"]) (d_dealt:zc K mg "dealt" fh ["rule", "row"]) (d_table_of:zc K mg "table_of" na ["house", "rule"]) (d_read_deal:zc K mg "read_deal" oa ["house", "words"]) (d_read_clause:zc K mg "read_clause" tz ["house", "words"]) (d_clauses_in:zc K mg "clauses_in" rc ["text"]) (d_read_rule:zc K mg "read_rule" pj ["house", "text"]) (d_are_figures:zc K mg "are_figures" tj ["text"]) (d_number_of:zc K mg "number_of" pz ["text"]) (d_numbers_of:zc K mg "numbers_of" rf ["words"]) (d_hand_from:zc K mg "hand_from" p7 ["text"]) (d_read_house:zc K mg "read_house" qd ["text"]) (d_read_weights:zc K mg "read_weights" uj ["text"]) (d_rule_table:zc K mg "rule_table" rn ["house", "rest"]) (d_weighted_table:zc K mg "weighted_table" vm ["house", "rest"]) (d_row_from:zc K mg "row_from" nq ["table", "rest"]) (d_deal_told:zc K mg "deal_told" p9 ["house", "table", "rest"]) (d_refuse_row:zc K mg "refuse_row" qg ["row"]) (d_law_cell:zc K mg "_law_cell" me ["script", "k"]) (d_law_number:zc K mg "_law_number" rg ["cell", "top"]) (d_law_names:zc K mg "_law_names" zr ["cell", "many"]) (d_law_hands:zc K mg "_law_hands" pp ["script", "places", "top"]) (d_law_rows:zc K mg "_law_rows" ma ["hands"]) (d_law_worths:zc K mg "_law_worths" qf ["hand", "word"]) (d_law_weights:zc K mg "_law_weights" sd ["script", "many"]) (d_law_handicaps:zc K mg "_law_handicaps" v8 ["script", "places"]) (d_law_scores:zc K mg "_law_scores" rb ["hands", "weights", "handicaps", "row"]) (d_law_house_row:zc K mg "_law_house_row" v6 ["outcomes", "hands"]) (d_law_best_row:zc K mg "_law_best_row" ur ["weights", "handicaps"]) (d_law_no_stand:zc K mg "_law_no_stand" uh ["desk", "row"]) (d_law_no_row:zc K mg "_law_no_row" qr ["desk", "row"]) (d_law_none:zc K mg "_law_none" nn ["desk", "hands"]) (d_law_dealt:zc K mg "_law_dealt" pc ["desk", "hands", "outcomes", "weights", "handicaps"]) (d_law_weighed:zc K mg "_law_weighed" tm ["desk", "hands", "outcomes", "weights", "handicaps"]) (c_Desk:ug K mg "Desk" a.Desk "Desk.__init__" yn ["self"] ["house", "table"]) (m_Desk_say:MtIn K a.Desk "say" "Desk.say" nk ["self", "row"]) (g_MAKERS:lq P w K mg "MAKERS" [("rule", "rule_table"),("best", "weighted_table")]) (g_ANSWERS:lq P w K mg "ANSWERS" [("deal", "deal_told"),("pays", "pays_told"),("verdict", "verdict_told"),("menu", "menu_told")]) (base:Heap) {f:Addr} {fd:FuncData} (F:Fun K "law" "law" g9 f fd):FnOk P w K mg base CX0 52 f fd ["script"] (zfy K):=by
  have n1:=om (P:=P) (w:=w) (base:=base) B d_is_name;have n2:=v0 B n1 d_are_names;have n3:=wm B (lb B (j6 (P:=P) (w:=w) (base:=base) B d_is_whole) d_is_bounded) d_is_grid_row;have n4:=la B n3 d_are_worths;have n5:=ge B n1 n2 n4 d_is_hand;have n6:=oq (P:=P) (w:=w) (base:=base) d_name_of;have n7:=y9 (P:=P) (w:=w) (base:=base) d_words_of_hand;have n8:=wu (P:=P) (w:=w) (base:=base) d_worths_of_hand;have n9:=oz B n2 n5 (j9 n6 d_names_of) (rh B n7 d_count_of_rows) d_makes_house;have n10:=zgt B C n9 (zdw B n6 n7 n8 d_kept_hand) d_house_of;have m0:=zbl (P:=P) (w:=w) (base:=base) d_outcomes_of;have m1:=zfx (P:=P) (w:=w) (base:=base) d_hands_of;have mw:=ci (P:=P) (w:=w) (base:=base) d_words_of_hand;have mg':=dh (P:=P) (w:=w) (base:=base) d_worths_of_hand;have r5:=kt B C m0 d_read_deal;have r7:=zdo B C (zbp (P:=P) (w:=w) (base:=base) B C d_clauses_in) (ax (P:=P) (w:=w) (base:=base) d_read_clause) r5 d_read_rule;have t1:=oi (P:=P) (w:=w) (base:=base) B (kq B (ku (P:=P) (w:=w) (base:=base) B d_with_each) mw d_rows_over) m1 d_rows_of;have t2:=zd2 B t1 (zka (zj7 (zig (P:=P) (w:=w) (base:=base) d_holds) d_holds) d_dealt) d_table_of;have x1:=k9 B (o5 (P:=P) (w:=w) (base:=base) B d_are_figures) d_number_of;have x0:=vf B x1 d_numbers_of;have x2:=mz B (kr B x0 d_hand_from) n10 d_read_house;have b1:=jv B m1 (i0 (kx mw mg' d_worths_by) d_part_of) d_parts_of;have b2:=di B C (sk B C (o0 B m1 n3 d_are_weights) (qe B m0 n3 d_are_handicaps) d_refuse_weights) b1 d_scores;have b3:=m8 B t1 (qv B m0 (m6 (P:=P) (w:=w) (base:=base) B d_best_place) b2 d_best_outcome) d_best_table;have wt:=f_weighted_table (qz B C x0 d_read_weights) b3 d_weighted_table;have sy:=yr (P:=P) (w:=w) (base:=base) B C c_Desk g_MAKERS g_ANSWERS (m5 (P:=P) (w:=w) (base:=base) B C g_MAKERS g_ANSWERS d_refuse_row) x2 (zby r7 t2 d_rule_table) wt (f_deal_told B (jj (P:=P) (w:=w) (base:=base) B C d_row_from) d_deal_told) m_Desk_say;have c1:=y7 (P:=P) (w:=w) (base:=base) B d_law_cell;have c2:=vz (P:=P) (w:=w) (base:=base) B d_law_names;have c3:=wq (P:=P) (w:=w) (base:=base) d_law_number;have c4:=qh (P:=P) (w:=w) (base:=base) d_law_rows;have c5:=vi (P:=P) (w:=w) (base:=base) B d_law_best_row;have c6:=vg B C c_Desk sy d_law_no_stand;have c7:=uw B c_Desk sy c4 (m4 B (mq (P:=P) (w:=w) (base:=base) d_law_worths) d_law_scores) d_law_dealt;exact law_fn B c_Desk (bz (P:=P) (w:=w) (base:=base) c_Desk) sy c1 (kz B c1 c3 c2 d_law_hands) c2 (o6 B c1 c3 d_law_weights) (rk B c1 c3 d_law_handicaps) c5 c6 (vp B (lg B C c_Desk sy d_law_no_row) c6 d_law_none) (wy (P:=P) (w:=w) (base:=base) B d_law_house_row) c4 c7 (se c_Desk sy c5 c7 d_law_weighed) F
end
end Mine
namespace Tp
open PySem PySem.W PySem.Calls PyProof.Rows
noncomputable section
abbrev pr:Program:=PySem.Challenge.pw_trueword_k72_houses_and_best_said
def en(P:Params)(x:Str)(t:Nat)(v:Value):DictEntry:=⟨PyData.keyHash P x,.str x t,v⟩
abbrev fn(i:Nat)(name qual:Str)(dV kV doc pm:Value)(an:Option Addr)(cdv ct:Value):FuncData:=fnOf name qual (L2.wx (Mine.top i)) (L2.yg (Mine.top i)) (L2.zf (Mine.top i)) dV kV doc pm an cdv ct
abbrev fx(i:Nat)(name qual:Str)(g:Addr)(dV kV doc pm:Value)(an:Option Addr)(cdv ct:Value)(b:Addr):FuncData:=⟨name,qual,L2.wx (Mine.top i),.stmts (L2.yg (Mine.top i)),L2.zf (Mine.top i),g,[],dV,kV,doc,pm,an,cdv,ct,b⟩
def oE:Obj:=⟨.type "tuple", none,.seq #[] 0,#[]⟩
def oF:Obj:=⟨.none,none,.fields #[],#[]⟩
def tl:Nat->List Str->List Value
  | _,[]=>[]
  | t,x::r=>.str x t::tl (t+1) r
def ts(t:Nat)(xs:List Str):Obj:=⟨.type "tuple", none,.seq (tl t xs).toArray 0,#[]⟩
def fo(i:Nat)(n m:Str)(t c:Nat):Obj:=⟨.type "function", none,.func (fn i n n .none .none .none (.str m t) none (.ref c) .none),#[]⟩
def xo(i:Nat)(n:Str):Obj:=⟨.none,none,.func (fx i n n 0 .none .none .none .none none .none .none 0),#[]⟩
def co(n:Str)(t l c f a:Nat)(b:Bool)(e:Nat)(v1 v2 v3 v4:Value)(k:Nat):Obj:=⟨.type "code", none,.fields #[.str n t,.str n (t+1),.str "/claim/cut.py" (t+2),.int l 0,.int c 0,.int 0 0,.int 0 0,.int f 0,.ref a,.bool b,.int 181 0,.ref e,v1,v2,v3,v4,.int k 0,.int l 0,.str "/claim/cut.py" (k+1)],#[]⟩
def ia(t:BT):Nat->List Obj->BT
  | _,[]=>t
  | n,o::r=>ia (t.ins n o) (n+1) r
def lf(P:Params):Life:=(boot_heap P).life
def env:Env:={ scope:=pr.main.scope,locals:=mainNs,globals:=mainNs,cells:=[],code:=(.ref 13),frame:=some 14 }
def cd:Code:=.body (behindTheImports pr) env
def qp:Pos:=⟨0,0,0,0⟩
def o13:Obj:=(co "<module>" 182 1 0 0 11 false 12 .none .none .none .none 185)
def ha(P:Params):Heap:=⟨⟨[boot_o_0 P,boot_o_1 P,boot_o_2 P,boot_o_3 P,boot_o_4 P,boot_o_5 P,boot_o_6 P,boot_o_7 P,boot_o_8 P,boot_o_9 P,boot_o_10 P,oE,oF,o13,⟨(.type "frame"),none,.plain,#[(some (.ref 13)),(some (.ref 3)),(some (.ref 3)),none,(some (.str "__main__" 164)),none,(some (.ref 0))]⟩]⟩,lf P⟩
def t0(P:Params):BT:=(.node (boot_o_0 P) (.node (boot_o_1 P) (.node (boot_o_3 P) (.node (boot_o_7 P) .nil .nil) (.node (oE) .nil .nil)) (.node (boot_o_5 P) (.node (boot_o_9 P) .nil .nil) (.node (o13) .nil .nil))) (.node (boot_o_2 P) (.node (boot_o_4 P) (.node (boot_o_8 P) .nil .nil) (.node (oF) .nil .nil)) (.node (boot_o_6 P) (.node (boot_o_10 P) .nil .nil) (.node (⟨(.type "frame"),none,.plain,#[(some (.ref 13)),(some (.ref 3)),(some (.ref 3)),none,(some (.str "__main__" 164)),none,(some (.ref 0))]⟩) .nil .nil))))
def o3(P:Params):Obj:=⟨(.type "dict"),none,(.dict #[en P "__name__" 165 (.str "trueword.errors" 187),en P "__doc__" 166 .none,en P "__package__" 167 .none,en P "__loader__" 168 (.builtin "__main__.__loader__#opaque"),en P "__spec__" 169 .none,en P "__annotations__" 170 (.ref 6),en P "__builtins__" 171 (.ref 4),en P "__file__" 173 (.str "/claim/cut.py" 172),en P "__cached__" 174 .none,en P "TrueError" 206 (.ref 24),en P "NoPays" 222 (.ref 37),en P "NoHouse" 238 (.ref 49),en P "NoMenu" 254 (.ref 61),en P "NoWeight" 270 (.ref 73),en P "NoShare" 286 (.ref 85),en P "NoRule" 302 (.ref 97)] 16),#[]⟩
def o17(P:Params):Obj:=⟨(.type "dict"),none,(.dict #[en P "__module__" 196 (.str "trueword.errors" 187),en P "__qualname__" 198 (.str "TrueError" 197),en P "__firstlineno__" 200 (.int (2) 199),en P "__static_attributes__" 201 (.ref 22)] 4),#[]⟩
def o20:Obj:=(co "TrueError" 191 2 0 0 18 false 19 .none .none .none .none 194)
def o23(P:Params):Obj:=⟨(.type "dict"),none,(.dict #[en P "__module__" 196 (.str "trueword.errors" 187),en P "__firstlineno__" 200 (.int (2) 199),en P "__static_attributes__" 201 (.ref 22),en P "__weakref__" 203 (.ref 25),en P "__doc__" 204 .none] 3),#[]⟩
def o24:Obj:=⟨(.type "type"),none,(.cls ⟨"TrueError", [(.type "ValueError")],[(.ref 24),(.type "ValueError"),(.type "Exception"),(.type "BaseException"),(.type "object")],23, "TrueError", true,[],[(.ref 37),(.ref 49),(.ref 61),(.ref 73),(.ref 85),(.ref 97)],false,none,false⟩),#[(some (.ref 15)),none,(some (.str "TrueError" 189)),(some (.str "TrueError" 197)),(some (.builtin "ValueError.__new__")),(some (.bool true))]⟩
def o30(P:Params):Obj:=⟨(.type "dict"),none,(.dict #[en P "__module__" 214 (.str "trueword.errors" 187),en P "__qualname__" 216 (.str "NoPays" 215),en P "__firstlineno__" 218 (.int (4) 217),en P "__static_attributes__" 219 (.ref 35)] 4),#[]⟩
def o33:Obj:=(co "NoPays" 209 4 0 0 31 false 32 .none .none .none .none 212)
def o36(P:Params):Obj:=⟨(.type "dict"),none,(.dict #[en P "__module__" 214 (.str "trueword.errors" 187),en P "__firstlineno__" 218 (.int (4) 217),en P "__static_attributes__" 219 (.ref 35),en P "__doc__" 220 .none] 2),#[]⟩
def o37:Obj:=⟨(.type "type"),none,(.cls ⟨"NoPays", [(.ref 24)],[(.ref 37),(.ref 24),(.type "ValueError"),(.type "Exception"),(.type "BaseException"),(.type "object")],36, "NoPays", true,[],[],false,none,false⟩),#[(some (.ref 28)),none,(some (.str "NoPays" 207)),(some (.str "NoPays" 215)),(some (.builtin "ValueError.__new__")),(some (.bool true))]⟩
def o42(P:Params):Obj:=⟨(.type "dict"),none,(.dict #[en P "__module__" 230 (.str "trueword.errors" 187),en P "__qualname__" 232 (.str "NoHouse" 231),en P "__firstlineno__" 234 (.int (6) 233),en P "__static_attributes__" 235 (.ref 47)] 4),#[]⟩
def o45:Obj:=(co "NoHouse" 225 6 0 0 43 false 44 .none .none .none .none 228)
def o48(P:Params):Obj:=⟨(.type "dict"),none,(.dict #[en P "__module__" 230 (.str "trueword.errors" 187),en P "__firstlineno__" 234 (.int (6) 233),en P "__static_attributes__" 235 (.ref 47),en P "__doc__" 236 .none] 2),#[]⟩
def o49:Obj:=⟨(.type "type"),none,(.cls ⟨"NoHouse", [(.ref 24)],[(.ref 49),(.ref 24),(.type "ValueError"),(.type "Exception"),(.type "BaseException"),(.type "object")],48, "NoHouse", true,[],[],false,none,false⟩),#[(some (.ref 40)),none,(some (.str "NoHouse" 223)),(some (.str "NoHouse" 231)),(some (.builtin "ValueError.__new__")),(some (.bool true))]⟩
def o54(P:Params):Obj:=⟨(.type "dict"),none,(.dict #[en P "__module__" 246 (.str "trueword.errors" 187),en P "__qualname__" 248 (.str "NoMenu" 247),en P "__firstlineno__" 250 (.int (8) 249),en P "__static_attributes__" 251 (.ref 59)] 4),#[]⟩
def o57:Obj:=(co "NoMenu" 241 8 0 0 55 false 56 .none .none .none .none 244)
def o60(P:Params):Obj:=⟨(.type "dict"),none,(.dict #[en P "__module__" 246 (.str "trueword.errors" 187),en P "__firstlineno__" 250 (.int (8) 249),en P "__static_attributes__" 251 (.ref 59),en P "__doc__" 252 .none] 2),#[]⟩
def o61:Obj:=⟨(.type "type"),none,(.cls ⟨"NoMenu", [(.ref 24)],[(.ref 61),(.ref 24),(.type "ValueError"),(.type "Exception"),(.type "BaseException"),(.type "object")],60, "NoMenu", true,[],[],false,none,false⟩),#[(some (.ref 52)),none,(some (.str "NoMenu" 239)),(some (.str "NoMenu" 247)),(some (.builtin "ValueError.__new__")),(some (.bool true))]⟩
def o66(P:Params):Obj:=⟨(.type "dict"),none,(.dict #[en P "__module__" 262 (.str "trueword.errors" 187),en P "__qualname__" 264 (.str "NoWeight" 263),en P "__firstlineno__" 266 (.int (10) 265),en P "__static_attributes__" 267 (.ref 71)] 4),#[]⟩
def o69:Obj:=(co "NoWeight" 257 10 0 0 67 false 68 .none .none .none .none 260)
def o72(P:Params):Obj:=⟨(.type "dict"),none,(.dict #[en P "__module__" 262 (.str "trueword.errors" 187),en P "__firstlineno__" 266 (.int (10) 265),en P "__static_attributes__" 267 (.ref 71),en P "__doc__" 268 .none] 2),#[]⟩
def o73:Obj:=⟨(.type "type"),none,(.cls ⟨"NoWeight", [(.ref 24)],[(.ref 73),(.ref 24),(.type "ValueError"),(.type "Exception"),(.type "BaseException"),(.type "object")],72, "NoWeight", true,[],[],false,none,false⟩),#[(some (.ref 64)),none,(some (.str "NoWeight" 255)),(some (.str "NoWeight" 263)),(some (.builtin "ValueError.__new__")),(some (.bool true))]⟩
def o78(P:Params):Obj:=⟨(.type "dict"),none,(.dict #[en P "__module__" 278 (.str "trueword.errors" 187),en P "__qualname__" 280 (.str "NoShare" 279),en P "__firstlineno__" 282 (.int (12) 281),en P "__static_attributes__" 283 (.ref 83)] 4),#[]⟩
def o81:Obj:=(co "NoShare" 273 12 0 0 79 false 80 .none .none .none .none 276)
def o84(P:Params):Obj:=⟨(.type "dict"),none,(.dict #[en P "__module__" 278 (.str "trueword.errors" 187),en P "__firstlineno__" 282 (.int (12) 281),en P "__static_attributes__" 283 (.ref 83),en P "__doc__" 284 .none] 2),#[]⟩
def o85:Obj:=⟨(.type "type"),none,(.cls ⟨"NoShare", [(.ref 24)],[(.ref 85),(.ref 24),(.type "ValueError"),(.type "Exception"),(.type "BaseException"),(.type "object")],84, "NoShare", true,[],[],false,none,false⟩),#[(some (.ref 76)),none,(some (.str "NoShare" 271)),(some (.str "NoShare" 279)),(some (.builtin "ValueError.__new__")),(some (.bool true))]⟩
def o90(P:Params):Obj:=⟨(.type "dict"),none,(.dict #[en P "__module__" 294 (.str "trueword.errors" 187),en P "__qualname__" 296 (.str "NoRule" 295),en P "__firstlineno__" 298 (.int (14) 297),en P "__static_attributes__" 299 (.ref 95)] 4),#[]⟩
def o93:Obj:=(co "NoRule" 289 14 0 0 91 false 92 .none .none .none .none 292)
def o96(P:Params):Obj:=⟨(.type "dict"),none,(.dict #[en P "__module__" 294 (.str "trueword.errors" 187),en P "__firstlineno__" 298 (.int (14) 297),en P "__static_attributes__" 299 (.ref 95),en P "__doc__" 300 .none] 2),#[]⟩
def o97:Obj:=⟨(.type "type"),none,(.cls ⟨"NoRule", [(.ref 24)],[(.ref 97),(.ref 24),(.type "ValueError"),(.type "Exception"),(.type "BaseException"),(.type "object")],96, "NoRule", true,[],[],false,none,false⟩),#[(some (.ref 88)),none,(some (.str "NoRule" 287)),(some (.str "NoRule" 295)),(some (.builtin "ValueError.__new__")),(some (.bool true))]⟩
def t1(P:Params):BT:=ia (((t0 P).set 3 fun _=>o3 P).set 12 fun _=>⟨.none,none,(.fields #[(.int (2) 0),(.int (0) 0),(.ref 20),(.int (4) 0),(.int (0) 0),(.ref 33),(.int (6) 0),(.int (0) 0),(.ref 45),(.int (8) 0),(.int (0) 0),(.ref 57),(.int (10) 0),(.int (0) 0),(.ref 69),(.int (12) 0),(.int (0) 0),(.ref 81),(.int (14) 0),(.int (0) 0),(.ref 93)]),#[]⟩) 15 [⟨(.type "tuple"),none,(.seq #[(.type "ValueError")] 0),#[]⟩,⟨(.type "builtin_function_or_method"),none,(.fields #[(.builtin "type.__prepare__"),(.type "type")]),#[]⟩,o17 P,oE,oF,o20,⟨(.type "frame"),none,.plain,#[(some (.ref 20)),(some (.ref 3)),(some (.ref 17)),none,(some (.str "trueword.errors" 187)),none,(some (.ref 0))]⟩,oE,o23 P,o24,⟨(.type "getset_descriptor"),none,(.fields #[(.str "__weakref__" 202),(.ref 24),(.builtin "ExceptionGroup.__weakref__"),.none]),#[]⟩,⟨(.type "super"),none,(.fields #[(.ref 24),(.ref 24),(.ref 24)]),#[]⟩,⟨(.type "builtin_function_or_method"),none,(.fields #[(.builtin "object.__init_subclass__"),(.ref 24)]),#[]⟩,⟨(.type "tuple"),none,(.seq #[(.ref 24)] 0),#[]⟩,⟨(.type "builtin_function_or_method"),none,(.fields #[(.builtin "type.__prepare__"),(.type "type")]),#[]⟩,o30 P,oE,oF,o33,⟨(.type "frame"),none,.plain,#[(some (.ref 33)),(some (.ref 3)),(some (.ref 30)),none,(some (.str "trueword.errors" 187)),none,(some (.ref 0))]⟩,oE,o36 P,o37,⟨(.type "super"),none,(.fields #[(.ref 37),(.ref 37),(.ref 37)]),#[]⟩,⟨(.type "builtin_function_or_method"),none,(.fields #[(.builtin "object.__init_subclass__"),(.ref 37)]),#[]⟩,⟨(.type "tuple"),none,(.seq #[(.ref 24)] 0),#[]⟩,⟨(.type "builtin_function_or_method"),none,(.fields #[(.builtin "type.__prepare__"),(.type "type")]),#[]⟩,o42 P,oE,oF,o45,⟨(.type "frame"),none,.plain,#[(some (.ref 45)),(some (.ref 3)),(some (.ref 42)),none,(some (.str "trueword.errors" 187)),none,(some (.ref 0))]⟩,oE,o48 P,o49,⟨(.type "super"),none,(.fields #[(.ref 49),(.ref 49),(.ref 49)]),#[]⟩,⟨(.type "builtin_function_or_method"),none,(.fields #[(.builtin "object.__init_subclass__"),(.ref 49)]),#[]⟩,⟨(.type "tuple"),none,(.seq #[(.ref 24)] 0),#[]⟩,⟨(.type "builtin_function_or_method"),none,(.fields #[(.builtin "type.__prepare__"),(.type "type")]),#[]⟩,o54 P,oE,oF,o57,⟨(.type "frame"),none,.plain,#[(some (.ref 57)),(some (.ref 3)),(some (.ref 54)),none,(some (.str "trueword.errors" 187)),none,(some (.ref 0))]⟩,oE,o60 P,o61,⟨(.type "super"),none,(.fields #[(.ref 61),(.ref 61),(.ref 61)]),#[]⟩,⟨(.type "builtin_function_or_method"),none,(.fields #[(.builtin "object.__init_subclass__"),(.ref 61)]),#[]⟩,⟨(.type "tuple"),none,(.seq #[(.ref 24)] 0),#[]⟩,⟨(.type "builtin_function_or_method"),none,(.fields #[(.builtin "type.__prepare__"),(.type "type")]),#[]⟩,o66 P,oE,oF,o69,⟨(.type "frame"),none,.plain,#[(some (.ref 69)),(some (.ref 3)),(some (.ref 66)),none,(some (.str "trueword.errors" 187)),none,(some (.ref 0))]⟩,oE,o72 P,o73,⟨(.type "super"),none,(.fields #[(.ref 73),(.ref 73),(.ref 73)]),#[]⟩,⟨(.type "builtin_function_or_method"),none,(.fields #[(.builtin "object.__init_subclass__"),(.ref 73)]),#[]⟩,⟨(.type "tuple"),none,(.seq #[(.ref 24)] 0),#[]⟩,⟨(.type "builtin_function_or_method"),none,(.fields #[(.builtin "type.__prepare__"),(.type "type")]),#[]⟩,o78 P,oE,oF,o81,⟨(.type "frame"),none,.plain,#[(some (.ref 81)),(some (.ref 3)),(some (.ref 78)),none,(some (.str "trueword.errors" 187)),none,(some (.ref 0))]⟩,oE,o84 P,o85,⟨(.type "super"),none,(.fields #[(.ref 85),(.ref 85),(.ref 85)]),#[]⟩,⟨(.type "builtin_function_or_method"),none,(.fields #[(.builtin "object.__init_subclass__"),(.ref 85)]),#[]⟩,⟨(.type "tuple"),none,(.seq #[(.ref 24)] 0),#[]⟩,⟨(.type "builtin_function_or_method"),none,(.fields #[(.builtin "type.__prepare__"),(.type "type")]),#[]⟩,o90 P,oE,oF,o93,⟨(.type "frame"),none,.plain,#[(some (.ref 93)),(some (.ref 3)),(some (.ref 90)),none,(some (.str "trueword.errors" 187)),none,(some (.ref 0))]⟩,oE,o96 P,o97,⟨(.type "super"),none,(.fields #[(.ref 97),(.ref 97),(.ref 97)]),#[]⟩,⟨(.type "builtin_function_or_method"),none,(.fields #[(.builtin "object.__init_subclass__"),(.ref 97)]),#[]⟩]
def o3_1(P:Params):Obj:=⟨(.type "dict"),none,(.dict #[en P "__name__" 165 (.str "trueword.best" 564),en P "__doc__" 166 .none,en P "__package__" 167 .none,en P "__loader__" 168 (.builtin "__main__.__loader__#opaque"),en P "__spec__" 169 .none,en P "__annotations__" 170 (.ref 6),en P "__builtins__" 171 (.ref 4),en P "__file__" 173 (.str "/claim/cut.py" 172),en P "__cached__" 174 .none,en P "TrueError" 206 (.ref 24),en P "NoPays" 222 (.ref 37),en P "NoHouse" 238 (.ref 49),en P "NoMenu" 254 (.ref 61),en P "NoWeight" 270 (.ref 73),en P "NoShare" 286 (.ref 85),en P "NoRule" 302 (.ref 97),en P "NoRow" 318 (.ref 109),en P "NoStand" 334 (.ref 121),en P "NoWord" 350 (.ref 133),en P "MOST_WORDS" 354 (.int (8) 353),en P "is_whole" 361 (.ref 142),en P "is_bounded" 368 (.ref 149),en P "is_grid_row" 374 (.ref 154),en P "turn" 383 (.ref 161),en P "gain" 393 (.ref 168),en P "first_gain" 404 (.ref 175),en P "MOST_LETTERS" 408 (.int (8) 407),en P "MOST_OUTCOMES" 410 (.int (8) 409),en P "MOST_HANDS" 412 (.int (4) 411),en P "MOST_ROWS" 414 (.int (256) 413),en P "is_name" 420 (.ref 180),en P "are_names" 426 (.ref 185),en P "are_worths" 432 (.ref 190),en P "is_hand" 440 (.ref 197),en P "name_of" 447 (.ref 204),en P "names_of" 453 (.ref 209),en P "words_of_hand" 460 (.ref 216),en P "worths_of_hand" 467 (.ref 223),en P "worths_by" 475 (.ref 230),en P "count_of_rows" 484 (.ref 237),en P "makes_house" 490 (.ref 242),en P "kept_hand" 496 (.ref 247),en P "house_of" 502 (.ref 252),en P "outcomes_of" 509 (.ref 259),en P "hands_of" 516 (.ref 266),en P "with_each" 522 (.ref 271),en P "rows_over" 531 (.ref 278),en P "rows_of" 538 (.ref 285),en P "without" 546 (.ref 292),en P "others_of" 554 (.ref 299),en P "row_with" 563 (.ref 306)] 51),#[]⟩
def o24_1:Obj:=⟨(.type "type"),none,(.cls ⟨"TrueError", [(.type "ValueError")],[(.ref 24),(.type "ValueError"),(.type "Exception"),(.type "BaseException"),(.type "object")],23, "TrueError", true,[],[(.ref 37),(.ref 49),(.ref 61),(.ref 73),(.ref 85),(.ref 97),(.ref 109),(.ref 121),(.ref 133)],false,none,false⟩),#[(some (.ref 15)),none,(some (.str "TrueError" 189)),(some (.str "TrueError" 197)),(some (.builtin "ValueError.__new__")),(some (.bool true))]⟩
def o102(P:Params):Obj:=⟨(.type "dict"),none,(.dict #[en P "__module__" 310 (.str "trueword.errors" 187),en P "__qualname__" 312 (.str "NoRow" 311),en P "__firstlineno__" 314 (.int (16) 313),en P "__static_attributes__" 315 (.ref 107)] 4),#[]⟩
def o105:Obj:=(co "NoRow" 305 16 0 0 103 false 104 .none .none .none .none 308)
def o108(P:Params):Obj:=⟨(.type "dict"),none,(.dict #[en P "__module__" 310 (.str "trueword.errors" 187),en P "__firstlineno__" 314 (.int (16) 313),en P "__static_attributes__" 315 (.ref 107),en P "__doc__" 316 .none] 2),#[]⟩
def o109:Obj:=⟨(.type "type"),none,(.cls ⟨"NoRow", [(.ref 24)],[(.ref 109),(.ref 24),(.type "ValueError"),(.type "Exception"),(.type "BaseException"),(.type "object")],108, "NoRow", true,[],[],false,none,false⟩),#[(some (.ref 100)),none,(some (.str "NoRow" 303)),(some (.str "NoRow" 311)),(some (.builtin "ValueError.__new__")),(some (.bool true))]⟩
def o114(P:Params):Obj:=⟨(.type "dict"),none,(.dict #[en P "__module__" 326 (.str "trueword.errors" 187),en P "__qualname__" 328 (.str "NoStand" 327),en P "__firstlineno__" 330 (.int (18) 329),en P "__static_attributes__" 331 (.ref 119)] 4),#[]⟩
def o117:Obj:=(co "NoStand" 321 18 0 0 115 false 116 .none .none .none .none 324)
def o120(P:Params):Obj:=⟨(.type "dict"),none,(.dict #[en P "__module__" 326 (.str "trueword.errors" 187),en P "__firstlineno__" 330 (.int (18) 329),en P "__static_attributes__" 331 (.ref 119),en P "__doc__" 332 .none] 2),#[]⟩
def o121:Obj:=⟨(.type "type"),none,(.cls ⟨"NoStand", [(.ref 24)],[(.ref 121),(.ref 24),(.type "ValueError"),(.type "Exception"),(.type "BaseException"),(.type "object")],120, "NoStand", true,[],[],false,none,false⟩),#[(some (.ref 112)),none,(some (.str "NoStand" 319)),(some (.str "NoStand" 327)),(some (.builtin "ValueError.__new__")),(some (.bool true))]⟩
def o126(P:Params):Obj:=⟨(.type "dict"),none,(.dict #[en P "__module__" 342 (.str "trueword.errors" 187),en P "__qualname__" 344 (.str "NoWord" 343),en P "__firstlineno__" 346 (.int (20) 345),en P "__static_attributes__" 347 (.ref 131)] 4),#[]⟩
def o129:Obj:=(co "NoWord" 337 20 0 0 127 false 128 .none .none .none .none 340)
def o132(P:Params):Obj:=⟨(.type "dict"),none,(.dict #[en P "__module__" 342 (.str "trueword.errors" 187),en P "__firstlineno__" 346 (.int (20) 345),en P "__static_attributes__" 347 (.ref 131),en P "__doc__" 348 .none] 2),#[]⟩
def o133:Obj:=⟨(.type "type"),none,(.cls ⟨"NoWord", [(.ref 24)],[(.ref 133),(.ref 24),(.type "ValueError"),(.type "Exception"),(.type "BaseException"),(.type "object")],132, "NoWord", true,[],[],false,none,false⟩),#[(some (.ref 124)),none,(some (.str "NoWord" 335)),(some (.str "NoWord" 343)),(some (.builtin "ValueError.__new__")),(some (.bool true))]⟩
def o141:Obj:=(co "is_whole" 355 24 1 3 136 true 137 .none (.ref 138) (.ref 139) (.ref 140) 359)
def o142:Obj:=(fo 13 "is_whole" "trueword.grids" 351 141)
def o148:Obj:=(co "is_bounded" 362 26 1 3 143 true 144 .none (.ref 145) (.ref 146) (.ref 147) 366)
def o149:Obj:=(fo 14 "is_bounded" "trueword.grids" 351 148)
def o153:Obj:=(co "is_grid_row" 369 28 2 3 150 true 151 .none .none .none (.ref 152) 372)
def o154:Obj:=(fo 15 "is_grid_row" "trueword.grids" 351 153)
def o160:Obj:=(co "turn" 375 32 3 3 155 true 156 .none (.ref 157) (.ref 158) (.ref 159) 381)
def o161:Obj:=(fo 16 "turn" "trueword.grids" 351 160)
def o167:Obj:=(co "gain" 384 34 4 3 162 true 163 .none (.ref 164) (.ref 165) (.ref 166) 391)
def o168:Obj:=(fo 17 "gain" "trueword.grids" 351 167)
def o174:Obj:=(co "first_gain" 394 36 2 3 169 true 170 .none (.ref 171) (.ref 172) (.ref 173) 402)
def o175:Obj:=(fo 18 "first_gain" "trueword.grids" 351 174)
def o179:Obj:=(co "is_name" 415 48 1 3 176 true 177 .none .none .none (.ref 178) 418)
def o180:Obj:=(fo 24 "is_name" "trueword.houses" 405 179)
def o184:Obj:=(co "are_names" 421 52 2 3 181 true 182 .none .none .none (.ref 183) 424)
def o185:Obj:=(fo 25 "are_names" "trueword.houses" 405 184)
def o189:Obj:=(co "are_worths" 427 56 3 3 186 true 187 .none .none .none (.ref 188) 430)
def o190:Obj:=(fo 26 "are_worths" "trueword.houses" 405 189)
def o196:Obj:=(co "is_hand" 433 60 2 3 191 true 192 .none (.ref 193) (.ref 194) (.ref 195) 438)
def o197:Obj:=(fo 27 "is_hand" "trueword.houses" 405 196)
def o203:Obj:=(co "name_of" 441 64 1 3 198 true 199 .none (.ref 200) (.ref 201) (.ref 202) 445)
def o204:Obj:=(fo 28 "name_of" "trueword.houses" 405 203)
def o208:Obj:=(co "names_of" 448 66 1 3 205 true 206 .none .none .none (.ref 207) 451)
def o209:Obj:=(fo 29 "names_of" "trueword.houses" 405 208)
def o215:Obj:=(co "words_of_hand" 454 68 1 3 210 true 211 .none (.ref 212) (.ref 213) (.ref 214) 458)
def o216:Obj:=(fo 30 "words_of_hand" "trueword.houses" 405 215)
def o222:Obj:=(co "worths_of_hand" 461 70 1 3 217 true 218 .none (.ref 219) (.ref 220) (.ref 221) 465)
def o223:Obj:=(fo 31 "worths_of_hand" "trueword.houses" 405 222)
def o229:Obj:=(co "worths_by" 468 72 2 3 224 true 225 .none (.ref 226) (.ref 227) (.ref 228) 473)
def o230:Obj:=(fo 32 "worths_by" "trueword.houses" 405 229)
def o236:Obj:=(co "count_of_rows" 476 74 1 3 231 true 232 .none (.ref 233) (.ref 234) (.ref 235) 482)
def o237:Obj:=(fo 33 "count_of_rows" "trueword.houses" 405 236)
def o241:Obj:=(co "makes_house" 485 79 2 3 238 true 239 .none .none .none (.ref 240) 488)
def o242:Obj:=(fo 34 "makes_house" "trueword.houses" 405 241)
def o246:Obj:=(co "kept_hand" 491 85 1 3 243 true 244 .none .none .none (.ref 245) 494)
def o247:Obj:=(fo 35 "kept_hand" "trueword.houses" 405 246)
def o251:Obj:=(co "house_of" 497 88 2 3 248 true 249 .none .none .none (.ref 250) 500)
def o252:Obj:=(fo 36 "house_of" "trueword.houses" 405 251)
def o258:Obj:=(co "outcomes_of" 503 92 1 3 253 true 254 .none (.ref 255) (.ref 256) (.ref 257) 507)
def o259:Obj:=(fo 37 "outcomes_of" "trueword.houses" 405 258)
def o265:Obj:=(co "hands_of" 510 94 1 3 260 true 261 .none (.ref 262) (.ref 263) (.ref 264) 514)
def o266:Obj:=(fo 38 "hands_of" "trueword.houses" 405 265)
def o270:Obj:=(co "with_each" 517 96 2 3 267 true 268 .none .none .none (.ref 269) 520)
def o271:Obj:=(fo 39 "with_each" "trueword.houses" 405 270)
def o277:Obj:=(co "rows_over" 523 101 1 3 272 true 273 .none (.ref 274) (.ref 275) (.ref 276) 529)
def o278:Obj:=(fo 40 "rows_over" "trueword.houses" 405 277)
def o284:Obj:=(co "rows_of" 532 106 1 3 279 true 280 .none (.ref 281) (.ref 282) (.ref 283) 536)
def o285:Obj:=(fo 41 "rows_of" "trueword.houses" 405 284)
def o291:Obj:=(co "without" 539 108 2 3 286 true 287 .none (.ref 288) (.ref 289) (.ref 290) 544)
def o292:Obj:=(fo 42 "without" "trueword.houses" 405 291)
def o298:Obj:=(co "others_of" 547 110 2 3 293 true 294 .none (.ref 295) (.ref 296) (.ref 297) 552)
def o299:Obj:=(fo 43 "others_of" "trueword.houses" 405 298)
def o305:Obj:=(co "row_with" 555 112 3 3 300 true 301 .none (.ref 302) (.ref 303) (.ref 304) 561)
def o306:Obj:=(fo 44 "row_with" "trueword.houses" 405 305)
def t2(P:Params):BT:=ia ((((t1 P).set 3 fun _=>o3_1 P).set 12 fun _=>⟨.none,none,(.fields #[(.int (2) 0),(.int (0) 0),(.ref 20),(.int (4) 0),(.int (0) 0),(.ref 33),(.int (6) 0),(.int (0) 0),(.ref 45),(.int (8) 0),(.int (0) 0),(.ref 57),(.int (10) 0),(.int (0) 0),(.ref 69),(.int (12) 0),(.int (0) 0),(.ref 81),(.int (14) 0),(.int (0) 0),(.ref 93),(.int (16) 0),(.int (0) 0),(.ref 105),(.int (18) 0),(.int (0) 0),(.ref 117),(.int (20) 0),(.int (0) 0),(.ref 129),(.int (24) 0),(.int (0) 0),(.ref 141),(.int (26) 0),(.int (0) 0),(.ref 148),(.int (28) 0),(.int (0) 0),(.ref 153),(.int (32) 0),(.int (0) 0),(.ref 160),(.int (34) 0),(.int (0) 0),(.ref 167),(.int (36) 0),(.int (0) 0),(.ref 174),(.int (48) 0),(.int (0) 0),(.ref 179),(.int (52) 0),(.int (0) 0),(.ref 184),(.int (56) 0),(.int (0) 0),(.ref 189),(.int (60) 0),(.int (0) 0),(.ref 196),(.int (64) 0),(.int (0) 0),(.ref 203),(.int (66) 0),(.int (0) 0),(.ref 208),(.int (68) 0),(.int (0) 0),(.ref 215),(.int (70) 0),(.int (0) 0),(.ref 222),(.int (72) 0),(.int (0) 0),(.ref 229),(.int (74) 0),(.int (0) 0),(.ref 236),(.int (79) 0),(.int (0) 0),(.ref 241),(.int (85) 0),(.int (0) 0),(.ref 246),(.int (88) 0),(.int (0) 0),(.ref 251),(.int (92) 0),(.int (0) 0),(.ref 258),(.int (94) 0),(.int (0) 0),(.ref 265),(.int (96) 0),(.int (0) 0),(.ref 270),(.int (101) 0),(.int (0) 0),(.ref 277),(.int (106) 0),(.int (0) 0),(.ref 284),(.int (108) 0),(.int (0) 0),(.ref 291),(.int (110) 0),(.int (0) 0),(.ref 298),(.int (112) 0),(.int (0) 0),(.ref 305)]),#[]⟩).set 24 fun _=>o24_1) 100 [⟨(.type "tuple"),none,(.seq #[(.ref 24)] 0),#[]⟩,⟨(.type "builtin_function_or_method"),none,(.fields #[(.builtin "type.__prepare__"),(.type "type")]),#[]⟩,o102 P,oE,oF,o105,⟨(.type "frame"),none,.plain,#[(some (.ref 105)),(some (.ref 3)),(some (.ref 102)),none,(some (.str "trueword.errors" 187)),none,(some (.ref 0))]⟩,oE,o108 P,o109,⟨(.type "super"),none,(.fields #[(.ref 109),(.ref 109),(.ref 109)]),#[]⟩,⟨(.type "builtin_function_or_method"),none,(.fields #[(.builtin "object.__init_subclass__"),(.ref 109)]),#[]⟩,⟨(.type "tuple"),none,(.seq #[(.ref 24)] 0),#[]⟩,⟨(.type "builtin_function_or_method"),none,(.fields #[(.builtin "type.__prepare__"),(.type "type")]),#[]⟩,o114 P,oE,oF,o117,⟨(.type "frame"),none,.plain,#[(some (.ref 117)),(some (.ref 3)),(some (.ref 114)),none,(some (.str "trueword.errors" 187)),none,(some (.ref 0))]⟩,oE,o120 P,o121,⟨(.type "super"),none,(.fields #[(.ref 121),(.ref 121),(.ref 121)]),#[]⟩,⟨(.type "builtin_function_or_method"),none,(.fields #[(.builtin "object.__init_subclass__"),(.ref 121)]),#[]⟩,⟨(.type "tuple"),none,(.seq #[(.ref 24)] 0),#[]⟩,⟨(.type "builtin_function_or_method"),none,(.fields #[(.builtin "type.__prepare__"),(.type "type")]),#[]⟩,o126 P,oE,oF,o129,⟨(.type "frame"),none,.plain,#[(some (.ref 129)),(some (.ref 3)),(some (.ref 126)),none,(some (.str "trueword.errors" 187)),none,(some (.ref 0))]⟩,oE,o132 P,o133,⟨(.type "super"),none,(.fields #[(.ref 133),(.ref 133),(.ref 133)]),#[]⟩,⟨(.type "builtin_function_or_method"),none,(.fields #[(.builtin "object.__init_subclass__"),(.ref 133)]),#[]⟩,oE,oF,(ts 358 ["thing"]),oE,(xo 13 "is_whole"),o141,o142,oE,oF,(ts 365 ["thing"]),oE,(xo 14 "is_bounded"),o148,o149,oE,oF,(xo 15 "is_grid_row"),o153,o154,oE,oF,(ts 378 ["grid", "s", "t"]),oE,(xo 16 "turn"),o160,o161,oE,oF,(ts 387 ["grid", "pays", "t", "s"]),oE,(xo 17 "gain"),o167,o168,oE,oF,(ts 397 ["grid", "pays", "t", "s", "more"]),oE,(xo 18 "first_gain"),o174,o175,oE,oF,(xo 24 "is_name"),o179,o180,oE,oF,(xo 25 "are_names"),o184,o185,oE,oF,(xo 26 "are_worths"),o189,o190,oE,oF,(ts 436 ["thing", "width"]),oE,(xo 27 "is_hand"),o196,o197,oE,oF,(ts 444 ["hand"]),oE,(xo 28 "name_of"),o203,o204,oE,oF,(xo 29 "names_of"),o208,o209,oE,oF,(ts 457 ["hand"]),oE,(xo 30 "words_of_hand"),o215,o216,oE,oF,(ts 464 ["hand"]),oE,(xo 31 "worths_of_hand"),o222,o223,oE,oF,(ts 471 ["hand", "word"]),oE,(xo 32 "worths_by"),o229,o230,oE,oF,(ts 479 ["hands", "count", "hand"]),oE,(xo 33 "count_of_rows"),o236,o237,oE,oF,(xo 34 "makes_house"),o241,o242,oE,oF,(xo 35 "kept_hand"),o246,o247,oE,oF,(xo 36 "house_of"),o251,o252,oE,oF,(ts 506 ["house"]),oE,(xo 37 "outcomes_of"),o258,o259,oE,oF,(ts 513 ["house"]),oE,(xo 38 "hands_of"),o265,o266,oE,oF,(xo 39 "with_each"),o270,o271,oE,oF,(ts 526 ["hands", "rows", "hand"]),oE,(xo 40 "rows_over"),o277,o278,oE,oF,(ts 535 ["house"]),oE,(xo 41 "rows_of"),o284,o285,oE,oF,(ts 542 ["things", "k"]),oE,(xo 42 "without"),o291,o292,oE,oF,(ts 550 ["house", "k"]),oE,(xo 43 "others_of"),o298,o299,oE,oF,(ts 558 ["others", "k", "word"]),oE,(xo 44 "row_with"),o305,o306]
def o3_2(P:Params):Obj:=⟨(.type "dict"),none,(.dict #[en P "__name__" 165 (.str "trueword.verdicts" 909),en P "__doc__" 166 .none,en P "__package__" 167 .none,en P "__loader__" 168 (.builtin "__main__.__loader__#opaque"),en P "__spec__" 169 .none,en P "__annotations__" 170 (.ref 6),en P "__builtins__" 171 (.ref 4),en P "__file__" 173 (.str "/claim/cut.py" 172),en P "__cached__" 174 .none,en P "TrueError" 206 (.ref 24),en P "NoPays" 222 (.ref 37),en P "NoHouse" 238 (.ref 49),en P "NoMenu" 254 (.ref 61),en P "NoWeight" 270 (.ref 73),en P "NoShare" 286 (.ref 85),en P "NoRule" 302 (.ref 97),en P "NoRow" 318 (.ref 109),en P "NoStand" 334 (.ref 121),en P "NoWord" 350 (.ref 133),en P "MOST_WORDS" 354 (.int (8) 353),en P "is_whole" 361 (.ref 142),en P "is_bounded" 368 (.ref 149),en P "is_grid_row" 374 (.ref 154),en P "turn" 383 (.ref 161),en P "gain" 393 (.ref 168),en P "first_gain" 404 (.ref 175),en P "MOST_LETTERS" 408 (.int (8) 407),en P "MOST_OUTCOMES" 410 (.int (8) 409),en P "MOST_HANDS" 412 (.int (4) 411),en P "MOST_ROWS" 414 (.int (256) 413),en P "is_name" 420 (.ref 180),en P "are_names" 426 (.ref 185),en P "are_worths" 432 (.ref 190),en P "is_hand" 440 (.ref 197),en P "name_of" 447 (.ref 204),en P "names_of" 453 (.ref 209),en P "words_of_hand" 460 (.ref 216),en P "worths_of_hand" 467 (.ref 223),en P "worths_by" 475 (.ref 230),en P "count_of_rows" 484 (.ref 237),en P "makes_house" 490 (.ref 242),en P "kept_hand" 496 (.ref 247),en P "house_of" 502 (.ref 252),en P "outcomes_of" 509 (.ref 259),en P "hands_of" 516 (.ref 266),en P "with_each" 522 (.ref 271),en P "rows_over" 531 (.ref 278),en P "rows_of" 538 (.ref 285),en P "without" 546 (.ref 292),en P "others_of" 554 (.ref 299),en P "row_with" 563 (.ref 306),en P "are_weights" 571 (.ref 311),en P "are_handicaps" 579 (.ref 318),en P "refuse_weights" 588 (.ref 325),en P "part_of" 594 (.ref 330),en P "parts_of" 600 (.ref 335),en P "scores" 606 (.ref 340),en P "best_place" 613 (.ref 347),en P "best_outcome" 623 (.ref 354),en P "best_table" 629 (.ref 359),en P "holds" 640 (.ref 366),en P "dealt" 646 (.ref 371),en P "table_of" 652 (.ref 376),en P "total_of" 661 (.ref 383),en P "words_of" 668 (.ref 390),en P "walks_of_one_turn" 674 (.ref 395),en P "least_to" 680 (.ref 400),en P "lengthened" 686 (.ref 405),en P "after_a_turn" 692 (.ref 410),en P "has_honest" 698 (.ref 415),en P "closed_below_zero" 707 (.ref 422),en P "ring" 713 (.ref 427),en P "refuse_ring" 722 (.ref 434),en P "lesser" 730 (.ref 441),en P "least_roads" 736 (.ref 446),en P "greatest" 744 (.ref 451),en P "dealt_places" 752 (.ref 456),en P "worths_at" 758 (.ref 461),en P "grid_of" 764 (.ref 466),en P "menu_of" 772 (.ref 471),en P "MOST_CLAUSES" 776 (.int (20) 775),en P "MOST_CLAUSE_WORDS" 778 (.int (40) 777),en P "COUNTS" 783 (.ref 472),en P "condition_of" 790 (.ref 479),en P "place_of" 797 (.ref 486),en P "word_at" 805 (.ref 493),en P "read_says" 816 (.ref 500),en P "read_count" 822 (.ref 505),en P "read_condition" 835 (.ref 512),en P "read_deal" 843 (.ref 519),en P "read_clause" 852 (.ref 526),en P "clauses_in" 858 (.ref 531),en P "read_rule" 864 (.ref 536),en P "MOST_FIGURES" 868 (.int (60) 867),en P "are_figures" 874 (.ref 541),en P "number_of" 882 (.ref 548),en P "numbers_of" 888 (.ref 553),en P "hand_from" 894 (.ref 558),en P "read_house" 900 (.ref 563),en P "read_weights" 908 (.ref 570),en P "grids_of" 916 (.ref 575),en P "paper" 926 (.ref 582),en P "verdict" 939 (.ref 589)] 103),#[]⟩
def o310:Obj:=(co "are_weights" 566 115 2 3 307 true 308 .none .none .none (.ref 309) 569)
def o311:Obj:=(fo 46 "are_weights" "trueword.best" 564 310)
def o317:Obj:=(co "are_handicaps" 572 117 2 3 312 true 313 .none (.ref 314) (.ref 315) (.ref 316) 577)
def o318:Obj:=(fo 47 "are_handicaps" "trueword.best" 564 317)
def o324:Obj:=(co "refuse_weights" 580 119 3 3 319 true 320 .none (.ref 321) (.ref 322) (.ref 323) 586)
def o325:Obj:=(fo 48 "refuse_weights" "trueword.best" 564 324)
def o329:Obj:=(co "part_of" 589 124 3 3 326 true 327 .none .none .none (.ref 328) 592)
def o330:Obj:=(fo 49 "part_of" "trueword.best" 564 329)
def o334:Obj:=(co "parts_of" 595 126 3 3 331 true 332 .none .none .none (.ref 333) 598)
def o335:Obj:=(fo 50 "parts_of" "trueword.best" 564 334)
def o339:Obj:=(co "scores" 601 128 4 3 336 true 337 .none .none .none (.ref 338) 604)
def o340:Obj:=(fo 51 "scores" "trueword.best" 564 339)
def o346:Obj:=(co "best_place" 607 134 1 3 341 true 342 .none (.ref 343) (.ref 344) (.ref 345) 611)
def o347:Obj:=(fo 52 "best_place" "trueword.best" 564 346)
def o353:Obj:=(co "best_outcome" 614 136 4 3 348 true 349 .none (.ref 350) (.ref 351) (.ref 352) 621)
def o354:Obj:=(fo 53 "best_outcome" "trueword.best" 564 353)
def o358:Obj:=(co "best_table" 624 138 3 3 355 true 356 .none .none .none (.ref 357) 627)
def o359:Obj:=(fo 54 "best_table" "trueword.best" 564 358)
def o365:Obj:=(co "holds" 632 141 2 3 360 true 361 .none (.ref 362) (.ref 363) (.ref 364) 638)
def o366:Obj:=(fo 56 "holds" "trueword.clauses" 630 365)
def o370:Obj:=(co "dealt" 641 154 2 3 367 true 368 .none .none .none (.ref 369) 644)
def o371:Obj:=(fo 57 "dealt" "trueword.clauses" 630 370)
def o375:Obj:=(co "table_of" 647 156 2 3 372 true 373 .none .none .none (.ref 374) 650)
def o376:Obj:=(fo 58 "table_of" "trueword.clauses" 630 375)
def o382:Obj:=(co "total_of" 655 159 1 3 377 true 378 .none (.ref 379) (.ref 380) (.ref 381) 659)
def o383:Obj:=(fo 60 "total_of" "trueword.rings" 653 382)
def o389:Obj:=(co "words_of" 662 161 1 3 384 true 385 .none (.ref 386) (.ref 387) (.ref 388) 666)
def o390:Obj:=(fo 61 "words_of" "trueword.rings" 653 389)
def o394:Obj:=(co "walks_of_one_turn" 669 163 2 3 391 true 392 .none .none .none (.ref 393) 672)
def o395:Obj:=(fo 62 "walks_of_one_turn" "trueword.rings" 653 394)
def o399:Obj:=(co "least_to" 675 165 3 3 396 true 397 .none .none .none (.ref 398) 678)
def o400:Obj:=(fo 63 "least_to" "trueword.rings" 653 399)
def o404:Obj:=(co "lengthened" 681 168 2 3 401 true 402 .none .none .none (.ref 403) 684)
def o405:Obj:=(fo 64 "lengthened" "trueword.rings" 653 404)
def o409:Obj:=(co "after_a_turn" 687 170 3 3 406 true 407 .none .none .none (.ref 408) 690)
def o410:Obj:=(fo 65 "after_a_turn" "trueword.rings" 653 409)
def o414:Obj:=(co "has_honest" 693 172 1 3 411 true 412 .none .none .none (.ref 413) 696)
def o415:Obj:=(fo 66 "has_honest" "trueword.rings" 653 414)
def o421:Obj:=(co "closed_below_zero" 699 177 1 3 416 true 417 .none (.ref 418) (.ref 419) (.ref 420) 705)
def o422:Obj:=(fo 67 "closed_below_zero" "trueword.rings" 653 421)
def o426:Obj:=(co "ring" 708 182 1 3 423 true 424 .none .none .none (.ref 425) 711)
def o427:Obj:=(fo 68 "ring" "trueword.rings" 653 426)
def o433:Obj:=(co "refuse_ring" 716 193 1 3 428 true 429 .none (.ref 430) (.ref 431) (.ref 432) 720)
def o434:Obj:=(fo 70 "refuse_ring" "trueword.roads" 714 433)
def o440:Obj:=(co "lesser" 723 196 2 3 435 true 436 .none (.ref 437) (.ref 438) (.ref 439) 728)
def o441:Obj:=(fo 71 "lesser" "trueword.roads" 714 440)
def o445:Obj:=(co "least_roads" 731 198 2 3 442 true 443 .none .none .none (.ref 444) 734)
def o446:Obj:=(fo 72 "least_roads" "trueword.roads" 714 445)
def o450:Obj:=(co "greatest" 739 203 1 3 447 true 448 .none .none .none (.ref 449) 742)
def o451:Obj:=(fo 74 "greatest" "trueword.pays" 737 450)
def o455:Obj:=(co "dealt_places" 747 208 4 3 452 true 453 .none .none .none (.ref 454) 750)
def o456:Obj:=(fo 76 "dealt_places" "trueword.tables" 745 455)
def o460:Obj:=(co "worths_at" 753 211 2 3 457 true 458 .none .none .none (.ref 459) 756)
def o461:Obj:=(fo 77 "worths_at" "trueword.tables" 745 460)
def o465:Obj:=(co "grid_of" 759 213 4 3 462 true 463 .none .none .none (.ref 464) 762)
def o466:Obj:=(fo 78 "grid_of" "trueword.tables" 745 465)
def o470:Obj:=(co "menu_of" 767 217 4 3 467 true 468 .none .none .none (.ref 469) 770)
def o471:Obj:=(fo 80 "menu_of" "trueword.menus" 765 470)
def o472:Obj:=(ts 779 ["1", "2", "3", "4"])
def o478:Obj:=(co "condition_of" 784 225 1 3 473 true 474 .none (.ref 475) (.ref 476) (.ref 477) 788)
def o479:Obj:=(fo 85 "condition_of" "trueword.rules" 773 478)
def o485:Obj:=(co "place_of" 791 227 1 3 480 true 481 .none (.ref 482) (.ref 483) (.ref 484) 795)
def o486:Obj:=(fo 86 "place_of" "trueword.rules" 773 485)
def o492:Obj:=(co "word_at" 798 229 2 3 487 true 488 .none (.ref 489) (.ref 490) (.ref 491) 803)
def o493:Obj:=(fo 87 "word_at" "trueword.rules" 773 492)
def o499:Obj:=(co "read_says" 806 233 3 3 494 true 495 .none (.ref 496) (.ref 497) (.ref 498) 814)
def o500:Obj:=(fo 88 "read_says" "trueword.rules" 773 499)
def o504:Obj:=(co "read_count" 817 241 3 3 501 true 502 .none .none .none (.ref 503) 820)
def o505:Obj:=(fo 89 "read_count" "trueword.rules" 773 504)
def o511:Obj:=(co "read_condition" 823 247 3 3 506 true 507 .none (.ref 508) (.ref 509) (.ref 510) 833)
def o512:Obj:=(fo 90 "read_condition" "trueword.rules" 773 511)
def o518:Obj:=(co "read_deal" 836 261 2 3 513 true 514 .none (.ref 515) (.ref 516) (.ref 517) 841)
def o519:Obj:=(fo 91 "read_deal" "trueword.rules" 773 518)
def o525:Obj:=(co "read_clause" 844 265 2 3 520 true 521 .none (.ref 522) (.ref 523) (.ref 524) 850)
def o526:Obj:=(fo 92 "read_clause" "trueword.rules" 773 525)
def o530:Obj:=(co "clauses_in" 853 270 1 3 527 true 528 .none .none .none (.ref 529) 856)
def o531:Obj:=(fo 93 "clauses_in" "trueword.rules" 773 530)
def o535:Obj:=(co "read_rule" 859 275 2 3 532 true 533 .none .none .none (.ref 534) 862)
def o536:Obj:=(fo 94 "read_rule" "trueword.rules" 773 535)
def o540:Obj:=(co "are_figures" 869 283 1 3 537 true 538 .none .none .none (.ref 539) 872)
def o541:Obj:=(fo 97 "are_figures" "trueword.texts" 865 540)
def o547:Obj:=(co "number_of" 875 285 1 3 542 true 543 .none (.ref 544) (.ref 545) (.ref 546) 880)
def o548:Obj:=(fo 98 "number_of" "trueword.texts" 865 547)
def o552:Obj:=(co "numbers_of" 883 290 1 3 549 true 550 .none .none .none (.ref 551) 886)
def o553:Obj:=(fo 99 "numbers_of" "trueword.texts" 865 552)
def o557:Obj:=(co "hand_from" 889 292 1 3 554 true 555 .none .none .none (.ref 556) 892)
def o558:Obj:=(fo 100 "hand_from" "trueword.texts" 865 557)
def o562:Obj:=(co "read_house" 895 296 1 3 559 true 560 .none .none .none (.ref 561) 898)
def o563:Obj:=(fo 101 "read_house" "trueword.texts" 865 562)
def o569:Obj:=(co "read_weights" 901 299 1 3 564 true 565 .none (.ref 566) (.ref 567) (.ref 568) 906)
def o570:Obj:=(fo 102 "read_weights" "trueword.texts" 865 569)
def o574:Obj:=(co "grids_of" 911 305 2 3 571 true 572 .none .none .none (.ref 573) 914)
def o575:Obj:=(fo 104 "grids_of" "trueword.verdicts" 909 574)
def o581:Obj:=(co "paper" 917 310 3 3 576 true 577 .none (.ref 578) (.ref 579) (.ref 580) 924)
def o582:Obj:=(fo 105 "paper" "trueword.verdicts" 909 581)
def o588:Obj:=(co "verdict" 927 313 2 3 583 true 584 .none (.ref 585) (.ref 586) (.ref 587) 937)
def o589:Obj:=(fo 106 "verdict" "trueword.verdicts" 909 588)
def t3(P:Params):BT:=ia (((t2 P).set 3 fun _=>o3_2 P).set 12 fun _=>⟨.none,none,(.fields #[(.int (2) 0),(.int (0) 0),(.ref 20),(.int (4) 0),(.int (0) 0),(.ref 33),(.int (6) 0),(.int (0) 0),(.ref 45),(.int (8) 0),(.int (0) 0),(.ref 57),(.int (10) 0),(.int (0) 0),(.ref 69),(.int (12) 0),(.int (0) 0),(.ref 81),(.int (14) 0),(.int (0) 0),(.ref 93),(.int (16) 0),(.int (0) 0),(.ref 105),(.int (18) 0),(.int (0) 0),(.ref 117),(.int (20) 0),(.int (0) 0),(.ref 129),(.int (24) 0),(.int (0) 0),(.ref 141),(.int (26) 0),(.int (0) 0),(.ref 148),(.int (28) 0),(.int (0) 0),(.ref 153),(.int (32) 0),(.int (0) 0),(.ref 160),(.int (34) 0),(.int (0) 0),(.ref 167),(.int (36) 0),(.int (0) 0),(.ref 174),(.int (48) 0),(.int (0) 0),(.ref 179),(.int (52) 0),(.int (0) 0),(.ref 184),(.int (56) 0),(.int (0) 0),(.ref 189),(.int (60) 0),(.int (0) 0),(.ref 196),(.int (64) 0),(.int (0) 0),(.ref 203),(.int (66) 0),(.int (0) 0),(.ref 208),(.int (68) 0),(.int (0) 0),(.ref 215),(.int (70) 0),(.int (0) 0),(.ref 222),(.int (72) 0),(.int (0) 0),(.ref 229),(.int (74) 0),(.int (0) 0),(.ref 236),(.int (79) 0),(.int (0) 0),(.ref 241),(.int (85) 0),(.int (0) 0),(.ref 246),(.int (88) 0),(.int (0) 0),(.ref 251),(.int (92) 0),(.int (0) 0),(.ref 258),(.int (94) 0),(.int (0) 0),(.ref 265),(.int (96) 0),(.int (0) 0),(.ref 270),(.int (101) 0),(.int (0) 0),(.ref 277),(.int (106) 0),(.int (0) 0),(.ref 284),(.int (108) 0),(.int (0) 0),(.ref 291),(.int (110) 0),(.int (0) 0),(.ref 298),(.int (112) 0),(.int (0) 0),(.ref 305),(.int (115) 0),(.int (0) 0),(.ref 310),(.int (117) 0),(.int (0) 0),(.ref 317),(.int (119) 0),(.int (0) 0),(.ref 324),(.int (124) 0),(.int (0) 0),(.ref 329),(.int (126) 0),(.int (0) 0),(.ref 334),(.int (128) 0),(.int (0) 0),(.ref 339),(.int (134) 0),(.int (0) 0),(.ref 346),(.int (136) 0),(.int (0) 0),(.ref 353),(.int (138) 0),(.int (0) 0),(.ref 358),(.int (141) 0),(.int (0) 0),(.ref 365),(.int (154) 0),(.int (0) 0),(.ref 370),(.int (156) 0),(.int (0) 0),(.ref 375),(.int (159) 0),(.int (0) 0),(.ref 382),(.int (161) 0),(.int (0) 0),(.ref 389),(.int (163) 0),(.int (0) 0),(.ref 394),(.int (165) 0),(.int (0) 0),(.ref 399),(.int (168) 0),(.int (0) 0),(.ref 404),(.int (170) 0),(.int (0) 0),(.ref 409),(.int (172) 0),(.int (0) 0),(.ref 414),(.int (177) 0),(.int (0) 0),(.ref 421),(.int (182) 0),(.int (0) 0),(.ref 426),(.int (193) 0),(.int (0) 0),(.ref 433),(.int (196) 0),(.int (0) 0),(.ref 440),(.int (198) 0),(.int (0) 0),(.ref 445),(.int (203) 0),(.int (0) 0),(.ref 450),(.int (208) 0),(.int (0) 0),(.ref 455),(.int (211) 0),(.int (0) 0),(.ref 460),(.int (213) 0),(.int (0) 0),(.ref 465),(.int (217) 0),(.int (0) 0),(.ref 470),(.int (225) 0),(.int (0) 0),(.ref 478),(.int (227) 0),(.int (0) 0),(.ref 485),(.int (229) 0),(.int (0) 0),(.ref 492),(.int (233) 0),(.int (0) 0),(.ref 499),(.int (241) 0),(.int (0) 0),(.ref 504),(.int (247) 0),(.int (0) 0),(.ref 511),(.int (261) 0),(.int (0) 0),(.ref 518),(.int (265) 0),(.int (0) 0),(.ref 525),(.int (270) 0),(.int (0) 0),(.ref 530),(.int (275) 0),(.int (0) 0),(.ref 535),(.int (283) 0),(.int (0) 0),(.ref 540),(.int (285) 0),(.int (0) 0),(.ref 547),(.int (290) 0),(.int (0) 0),(.ref 552),(.int (292) 0),(.int (0) 0),(.ref 557),(.int (296) 0),(.int (0) 0),(.ref 562),(.int (299) 0),(.int (0) 0),(.ref 569),(.int (305) 0),(.int (0) 0),(.ref 574),(.int (310) 0),(.int (0) 0),(.ref 581),(.int (313) 0),(.int (0) 0),(.ref 588)]),#[]⟩) 307 [oE,oF,(xo 46 "are_weights"),o310,o311,oE,oF,(ts 575 ["house", "thing"]),oE,(xo 47 "are_handicaps"),o317,o318,oE,oF,(ts 583 ["house", "weights", "handicaps"]),oE,(xo 48 "refuse_weights"),o324,o325,oE,oF,(xo 49 "part_of"),o329,o330,oE,oF,(xo 50 "parts_of"),o334,o335,oE,oF,(xo 51 "scores"),o339,o340,oE,oF,(ts 610 ["totals"]),oE,(xo 52 "best_place"),o346,o347,oE,oF,(ts 617 ["house", "weights", "handicaps", "row"]),oE,(xo 53 "best_outcome"),o353,o354,oE,oF,(xo 54 "best_table"),o358,o359,oE,oF,(ts 635 ["condition", "row", "kind"]),oE,(xo 56 "holds"),o365,o366,oE,oF,(xo 57 "dealt"),o370,o371,oE,oF,(xo 58 "table_of"),o375,o376,oE,oF,(ts 658 ["walk"]),oE,(xo 60 "total_of"),o382,o383,oE,oF,(ts 665 ["walk"]),oE,(xo 61 "words_of"),o389,o390,oE,oF,(xo 62 "walks_of_one_turn"),o394,o395,oE,oF,(xo 63 "least_to"),o399,o400,oE,oF,(xo 64 "lengthened"),o404,o405,oE,oF,(xo 65 "after_a_turn"),o409,o410,oE,oF,(xo 66 "has_honest"),o414,o415,oE,oF,(ts 702 ["rows", "s", "walks"]),oE,(xo 67 "closed_below_zero"),o421,o422,oE,oF,(xo 68 "ring"),o426,o427,oE,oF,(ts 719 ["grid"]),oE,(xo 70 "refuse_ring"),o433,o434,oE,oF,(ts 726 ["walk", "longer"]),oE,(xo 71 "lesser"),o440,o441,oE,oF,(xo 72 "least_roads"),o445,o446,oE,oF,(xo 74 "greatest"),o450,o451,oE,oF,(xo 76 "dealt_places"),o455,o456,oE,oF,(xo 77 "worths_at"),o460,o461,oE,oF,(xo 78 "grid_of"),o465,o466,oE,oF,(xo 80 "menu_of"),o470,o471,o472,oE,oF,(ts 787 ["told"]),oE,(xo 85 "condition_of"),o478,o479,oE,oF,(ts 794 ["told"]),oE,(xo 86 "place_of"),o485,o486,oE,oF,(ts 801 ["words", "place"]),oE,(xo 87 "word_at"),o492,o493,oE,oF,(ts 809 ["house", "name", "word", "names", "k"]),oE,(xo 88 "read_says"),o499,o500,oE,oF,(xo 89 "read_count"),o504,o505,oE,oF,(ts 826 ["house", "words", "place", "kind", "told", "one", "other"]),oE,(xo 90 "read_condition"),o511,o512,oE,oF,(ts 839 ["house", "words"]),oE,(xo 91 "read_deal"),o518,o519,oE,oF,(ts 847 ["house", "words", "told"]),oE,(xo 92 "read_clause"),o525,o526,oE,oF,(xo 93 "clauses_in"),o530,o531,oE,oF,(xo 94 "read_rule"),o535,o536,oE,oF,(xo 97 "are_figures"),o540,o541,oE,oF,(ts 878 ["text", "figures"]),oE,(xo 98 "number_of"),o547,o548,oE,oF,(xo 99 "numbers_of"),o552,o553,oE,oF,(xo 100 "hand_from"),o557,o558,oE,oF,(xo 101 "read_house"),o562,o563,oE,oF,(ts 904 ["text", "parts"]),oE,(xo 102 "read_weights"),o569,o570,oE,oF,(xo 104 "grids_of"),o574,o575,oE,oF,(ts 920 ["k", "others", "grid", "told"]),oE,(xo 105 "paper"),o581,o582,oE,oF,(ts 930 ["house", "table", "papers", "k", "others", "grid", "found"]),oE,(xo 106 "verdict"),o588,o589]
def o3_3(P:Params):Obj:=⟨(.type "dict"),none,(.dict #[en P "__name__" 165 (.str "trueword.desk" 957),en P "__doc__" 166 .none,en P "__package__" 167 .none,en P "__loader__" 168 (.builtin "__main__.__loader__#opaque"),en P "__spec__" 169 .none,en P "__annotations__" 170 (.ref 6),en P "__builtins__" 171 (.ref 4),en P "__file__" 173 (.str "/claim/cut.py" 172),en P "__cached__" 174 .none,en P "TrueError" 206 (.ref 24),en P "NoPays" 222 (.ref 37),en P "NoHouse" 238 (.ref 49),en P "NoMenu" 254 (.ref 61),en P "NoWeight" 270 (.ref 73),en P "NoShare" 286 (.ref 85),en P "NoRule" 302 (.ref 97),en P "NoRow" 318 (.ref 109),en P "NoStand" 334 (.ref 121),en P "NoWord" 350 (.ref 133),en P "MOST_WORDS" 354 (.int (8) 353),en P "is_whole" 361 (.ref 142),en P "is_bounded" 368 (.ref 149),en P "is_grid_row" 374 (.ref 154),en P "turn" 383 (.ref 161),en P "gain" 393 (.ref 168),en P "first_gain" 404 (.ref 175),en P "MOST_LETTERS" 408 (.int (8) 407),en P "MOST_OUTCOMES" 410 (.int (8) 409),en P "MOST_HANDS" 412 (.int (4) 411),en P "MOST_ROWS" 414 (.int (256) 413),en P "is_name" 420 (.ref 180),en P "are_names" 426 (.ref 185),en P "are_worths" 432 (.ref 190),en P "is_hand" 440 (.ref 197),en P "name_of" 447 (.ref 204),en P "names_of" 453 (.ref 209),en P "words_of_hand" 460 (.ref 216),en P "worths_of_hand" 467 (.ref 223),en P "worths_by" 475 (.ref 230),en P "count_of_rows" 484 (.ref 237),en P "makes_house" 490 (.ref 242),en P "kept_hand" 496 (.ref 247),en P "house_of" 502 (.ref 252),en P "outcomes_of" 509 (.ref 259),en P "hands_of" 516 (.ref 266),en P "with_each" 522 (.ref 271),en P "rows_over" 531 (.ref 278),en P "rows_of" 538 (.ref 285),en P "without" 546 (.ref 292),en P "others_of" 554 (.ref 299),en P "row_with" 563 (.ref 306),en P "are_weights" 571 (.ref 311),en P "are_handicaps" 579 (.ref 318),en P "refuse_weights" 588 (.ref 325),en P "part_of" 594 (.ref 330),en P "parts_of" 600 (.ref 335),en P "scores" 606 (.ref 340),en P "best_place" 613 (.ref 347),en P "best_outcome" 623 (.ref 354),en P "best_table" 629 (.ref 359),en P "holds" 640 (.ref 366),en P "dealt" 646 (.ref 371),en P "table_of" 652 (.ref 376),en P "total_of" 661 (.ref 383),en P "words_of" 668 (.ref 390),en P "walks_of_one_turn" 674 (.ref 395),en P "least_to" 680 (.ref 400),en P "lengthened" 686 (.ref 405),en P "after_a_turn" 692 (.ref 410),en P "has_honest" 698 (.ref 415),en P "closed_below_zero" 707 (.ref 422),en P "ring" 713 (.ref 427),en P "refuse_ring" 722 (.ref 434),en P "lesser" 730 (.ref 441),en P "least_roads" 736 (.ref 446),en P "greatest" 744 (.ref 451),en P "dealt_places" 752 (.ref 456),en P "worths_at" 758 (.ref 461),en P "grid_of" 764 (.ref 466),en P "menu_of" 772 (.ref 471),en P "MOST_CLAUSES" 776 (.int (20) 775),en P "MOST_CLAUSE_WORDS" 778 (.int (40) 777),en P "COUNTS" 783 (.ref 472),en P "condition_of" 790 (.ref 479),en P "place_of" 797 (.ref 486),en P "word_at" 805 (.ref 493),en P "read_says" 816 (.ref 500),en P "read_count" 822 (.ref 505),en P "read_condition" 835 (.ref 512),en P "read_deal" 843 (.ref 519),en P "read_clause" 852 (.ref 526),en P "clauses_in" 858 (.ref 531),en P "read_rule" 864 (.ref 536),en P "MOST_FIGURES" 868 (.int (60) 867),en P "are_figures" 874 (.ref 541),en P "number_of" 882 (.ref 548),en P "numbers_of" 888 (.ref 553),en P "hand_from" 894 (.ref 558),en P "read_house" 900 (.ref 563),en P "read_weights" 908 (.ref 570),en P "grids_of" 916 (.ref 575),en P "paper" 926 (.ref 582),en P "verdict" 939 (.ref 589),en P "asked_of" 950 (.ref 596),en P "asked" 956 (.ref 601),en P "rule_table" 966 (.ref 608),en P "weighted_table" 975 (.ref 615),en P "row_from" 984 (.ref 622),en P "deal_told" 993 (.ref 629),en P "pays_told" 999 (.ref 634),en P "ring_told" 1005 (.ref 639),en P "verdict_told" 1015 (.ref 646),en P "place_of_hand" 1024 (.ref 653),en P "menu_told" 1030 (.ref 658)] 114),#[]⟩
def o595:Obj:=(co "asked_of" 940 321 4 3 590 true 591 .none (.ref 592) (.ref 593) (.ref 594) 948)
def o596:Obj:=(fo 107 "asked_of" "trueword.verdicts" 909 595)
def o600:Obj:=(co "asked" 951 324 3 3 597 true 598 .none .none .none (.ref 599) 954)
def o601:Obj:=(fo 108 "asked" "trueword.verdicts" 909 600)
def o607:Obj:=(co "rule_table" 959 329 2 3 602 true 603 .none (.ref 604) (.ref 605) (.ref 606) 964)
def o608:Obj:=(fo 110 "rule_table" "trueword.desk" 957 607)
def o614:Obj:=(co "weighted_table" 967 331 2 3 609 true 610 .none (.ref 611) (.ref 612) (.ref 613) 973)
def o615:Obj:=(fo 111 "weighted_table" "trueword.desk" 957 614)
def o621:Obj:=(co "row_from" 976 334 2 3 616 true 617 .none (.ref 618) (.ref 619) (.ref 620) 982)
def o622:Obj:=(fo 112 "row_from" "trueword.desk" 957 621)
def o628:Obj:=(co "deal_told" 985 339 3 3 623 true 624 .none (.ref 625) (.ref 626) (.ref 627) 991)
def o629:Obj:=(fo 113 "deal_told" "trueword.desk" 957 628)
def o633:Obj:=(co "pays_told" 994 341 3 3 630 true 631 .none .none .none (.ref 632) 997)
def o634:Obj:=(fo 114 "pays_told" "trueword.desk" 957 633)
def o638:Obj:=(co "ring_told" 1000 343 3 3 635 true 636 .none .none .none (.ref 637) 1003)
def o639:Obj:=(fo 115 "ring_told" "trueword.desk" 957 638)
def o645:Obj:=(co "verdict_told" 1006 346 3 3 640 true 641 .none (.ref 642) (.ref 643) (.ref 644) 1013)
def o646:Obj:=(fo 116 "verdict_told" "trueword.desk" 957 645)
def o652:Obj:=(co "place_of_hand" 1016 351 2 3 647 true 648 .none (.ref 649) (.ref 650) (.ref 651) 1022)
def o653:Obj:=(fo 117 "place_of_hand" "trueword.desk" 957 652)
def o657:Obj:=(co "menu_told" 1025 356 3 3 654 true 655 .none .none .none (.ref 656) 1028)
def o658:Obj:=(fo 118 "menu_told" "trueword.desk" 957 657)
def t4(P:Params):BT:=ia (((t3 P).set 3 fun _=>o3_3 P).set 12 fun _=>⟨.none,none,(.fields #[(.int (2) 0),(.int (0) 0),(.ref 20),(.int (4) 0),(.int (0) 0),(.ref 33),(.int (6) 0),(.int (0) 0),(.ref 45),(.int (8) 0),(.int (0) 0),(.ref 57),(.int (10) 0),(.int (0) 0),(.ref 69),(.int (12) 0),(.int (0) 0),(.ref 81),(.int (14) 0),(.int (0) 0),(.ref 93),(.int (16) 0),(.int (0) 0),(.ref 105),(.int (18) 0),(.int (0) 0),(.ref 117),(.int (20) 0),(.int (0) 0),(.ref 129),(.int (24) 0),(.int (0) 0),(.ref 141),(.int (26) 0),(.int (0) 0),(.ref 148),(.int (28) 0),(.int (0) 0),(.ref 153),(.int (32) 0),(.int (0) 0),(.ref 160),(.int (34) 0),(.int (0) 0),(.ref 167),(.int (36) 0),(.int (0) 0),(.ref 174),(.int (48) 0),(.int (0) 0),(.ref 179),(.int (52) 0),(.int (0) 0),(.ref 184),(.int (56) 0),(.int (0) 0),(.ref 189),(.int (60) 0),(.int (0) 0),(.ref 196),(.int (64) 0),(.int (0) 0),(.ref 203),(.int (66) 0),(.int (0) 0),(.ref 208),(.int (68) 0),(.int (0) 0),(.ref 215),(.int (70) 0),(.int (0) 0),(.ref 222),(.int (72) 0),(.int (0) 0),(.ref 229),(.int (74) 0),(.int (0) 0),(.ref 236),(.int (79) 0),(.int (0) 0),(.ref 241),(.int (85) 0),(.int (0) 0),(.ref 246),(.int (88) 0),(.int (0) 0),(.ref 251),(.int (92) 0),(.int (0) 0),(.ref 258),(.int (94) 0),(.int (0) 0),(.ref 265),(.int (96) 0),(.int (0) 0),(.ref 270),(.int (101) 0),(.int (0) 0),(.ref 277),(.int (106) 0),(.int (0) 0),(.ref 284),(.int (108) 0),(.int (0) 0),(.ref 291),(.int (110) 0),(.int (0) 0),(.ref 298),(.int (112) 0),(.int (0) 0),(.ref 305),(.int (115) 0),(.int (0) 0),(.ref 310),(.int (117) 0),(.int (0) 0),(.ref 317),(.int (119) 0),(.int (0) 0),(.ref 324),(.int (124) 0),(.int (0) 0),(.ref 329),(.int (126) 0),(.int (0) 0),(.ref 334),(.int (128) 0),(.int (0) 0),(.ref 339),(.int (134) 0),(.int (0) 0),(.ref 346),(.int (136) 0),(.int (0) 0),(.ref 353),(.int (138) 0),(.int (0) 0),(.ref 358),(.int (141) 0),(.int (0) 0),(.ref 365),(.int (154) 0),(.int (0) 0),(.ref 370),(.int (156) 0),(.int (0) 0),(.ref 375),(.int (159) 0),(.int (0) 0),(.ref 382),(.int (161) 0),(.int (0) 0),(.ref 389),(.int (163) 0),(.int (0) 0),(.ref 394),(.int (165) 0),(.int (0) 0),(.ref 399),(.int (168) 0),(.int (0) 0),(.ref 404),(.int (170) 0),(.int (0) 0),(.ref 409),(.int (172) 0),(.int (0) 0),(.ref 414),(.int (177) 0),(.int (0) 0),(.ref 421),(.int (182) 0),(.int (0) 0),(.ref 426),(.int (193) 0),(.int (0) 0),(.ref 433),(.int (196) 0),(.int (0) 0),(.ref 440),(.int (198) 0),(.int (0) 0),(.ref 445),(.int (203) 0),(.int (0) 0),(.ref 450),(.int (208) 0),(.int (0) 0),(.ref 455),(.int (211) 0),(.int (0) 0),(.ref 460),(.int (213) 0),(.int (0) 0),(.ref 465),(.int (217) 0),(.int (0) 0),(.ref 470),(.int (225) 0),(.int (0) 0),(.ref 478),(.int (227) 0),(.int (0) 0),(.ref 485),(.int (229) 0),(.int (0) 0),(.ref 492),(.int (233) 0),(.int (0) 0),(.ref 499),(.int (241) 0),(.int (0) 0),(.ref 504),(.int (247) 0),(.int (0) 0),(.ref 511),(.int (261) 0),(.int (0) 0),(.ref 518),(.int (265) 0),(.int (0) 0),(.ref 525),(.int (270) 0),(.int (0) 0),(.ref 530),(.int (275) 0),(.int (0) 0),(.ref 535),(.int (283) 0),(.int (0) 0),(.ref 540),(.int (285) 0),(.int (0) 0),(.ref 547),(.int (290) 0),(.int (0) 0),(.ref 552),(.int (292) 0),(.int (0) 0),(.ref 557),(.int (296) 0),(.int (0) 0),(.ref 562),(.int (299) 0),(.int (0) 0),(.ref 569),(.int (305) 0),(.int (0) 0),(.ref 574),(.int (310) 0),(.int (0) 0),(.ref 581),(.int (313) 0),(.int (0) 0),(.ref 588),(.int (321) 0),(.int (0) 0),(.ref 595),(.int (324) 0),(.int (0) 0),(.ref 600),(.int (329) 0),(.int (0) 0),(.ref 607),(.int (331) 0),(.int (0) 0),(.ref 614),(.int (334) 0),(.int (0) 0),(.ref 621),(.int (339) 0),(.int (0) 0),(.ref 628),(.int (341) 0),(.int (0) 0),(.ref 633),(.int (343) 0),(.int (0) 0),(.ref 638),(.int (346) 0),(.int (0) 0),(.ref 645),(.int (351) 0),(.int (0) 0),(.ref 652),(.int (356) 0),(.int (0) 0),(.ref 657)]),#[]⟩) 590 [oE,oF,(ts 943 ["house", "table", "k", "row", "pays"]),oE,(xo 107 "asked_of"),o595,o596,oE,oF,(xo 108 "asked"),o600,o601,oE,oF,(ts 962 ["house", "rest"]),oE,(xo 110 "rule_table"),o607,o608,oE,oF,(ts 970 ["house", "rest", "told"]),oE,(xo 111 "weighted_table"),o614,o615,oE,oF,(ts 979 ["table", "rest", "row"]),oE,(xo 112 "row_from"),o621,o622,oE,oF,(ts 988 ["house", "table", "rest"]),oE,(xo 113 "deal_told"),o628,o629,oE,oF,(xo 114 "pays_told"),o633,o634,oE,oF,(xo 115 "ring_told"),o638,o639,oE,oF,(ts 1009 ["house", "table", "rest", "told"]),oE,(xo 116 "verdict_told"),o645,o646,oE,oF,(ts 1019 ["house", "name", "names"]),oE,(xo 117 "place_of_hand"),o652,o653,oE,oF,(xo 118 "menu_told"),o657,o658]
def o3_4(P:Params):Obj:=⟨(.type "dict"),none,(.dict #[en P "__name__" 165 (.str "trueword.desk" 957),en P "__doc__" 166 .none,en P "__package__" 167 .none,en P "__loader__" 168 (.builtin "__main__.__loader__#opaque"),en P "__spec__" 169 .none,en P "__annotations__" 170 (.ref 6),en P "__builtins__" 171 (.ref 4),en P "__file__" 173 (.str "/claim/cut.py" 172),en P "__cached__" 174 .none,en P "TrueError" 206 (.ref 24),en P "NoPays" 222 (.ref 37),en P "NoHouse" 238 (.ref 49),en P "NoMenu" 254 (.ref 61),en P "NoWeight" 270 (.ref 73),en P "NoShare" 286 (.ref 85),en P "NoRule" 302 (.ref 97),en P "NoRow" 318 (.ref 109),en P "NoStand" 334 (.ref 121),en P "NoWord" 350 (.ref 133),en P "MOST_WORDS" 354 (.int (8) 353),en P "is_whole" 361 (.ref 142),en P "is_bounded" 368 (.ref 149),en P "is_grid_row" 374 (.ref 154),en P "turn" 383 (.ref 161),en P "gain" 393 (.ref 168),en P "first_gain" 404 (.ref 175),en P "MOST_LETTERS" 408 (.int (8) 407),en P "MOST_OUTCOMES" 410 (.int (8) 409),en P "MOST_HANDS" 412 (.int (4) 411),en P "MOST_ROWS" 414 (.int (256) 413),en P "is_name" 420 (.ref 180),en P "are_names" 426 (.ref 185),en P "are_worths" 432 (.ref 190),en P "is_hand" 440 (.ref 197),en P "name_of" 447 (.ref 204),en P "names_of" 453 (.ref 209),en P "words_of_hand" 460 (.ref 216),en P "worths_of_hand" 467 (.ref 223),en P "worths_by" 475 (.ref 230),en P "count_of_rows" 484 (.ref 237),en P "makes_house" 490 (.ref 242),en P "kept_hand" 496 (.ref 247),en P "house_of" 502 (.ref 252),en P "outcomes_of" 509 (.ref 259),en P "hands_of" 516 (.ref 266),en P "with_each" 522 (.ref 271),en P "rows_over" 531 (.ref 278),en P "rows_of" 538 (.ref 285),en P "without" 546 (.ref 292),en P "others_of" 554 (.ref 299),en P "row_with" 563 (.ref 306),en P "are_weights" 571 (.ref 311),en P "are_handicaps" 579 (.ref 318),en P "refuse_weights" 588 (.ref 325),en P "part_of" 594 (.ref 330),en P "parts_of" 600 (.ref 335),en P "scores" 606 (.ref 340),en P "best_place" 613 (.ref 347),en P "best_outcome" 623 (.ref 354),en P "best_table" 629 (.ref 359),en P "holds" 640 (.ref 366),en P "dealt" 646 (.ref 371),en P "table_of" 652 (.ref 376),en P "total_of" 661 (.ref 383),en P "words_of" 668 (.ref 390),en P "walks_of_one_turn" 674 (.ref 395),en P "least_to" 680 (.ref 400),en P "lengthened" 686 (.ref 405),en P "after_a_turn" 692 (.ref 410),en P "has_honest" 698 (.ref 415),en P "closed_below_zero" 707 (.ref 422),en P "ring" 713 (.ref 427),en P "refuse_ring" 722 (.ref 434),en P "lesser" 730 (.ref 441),en P "least_roads" 736 (.ref 446),en P "greatest" 744 (.ref 451),en P "dealt_places" 752 (.ref 456),en P "worths_at" 758 (.ref 461),en P "grid_of" 764 (.ref 466),en P "menu_of" 772 (.ref 471),en P "MOST_CLAUSES" 776 (.int (20) 775),en P "MOST_CLAUSE_WORDS" 778 (.int (40) 777),en P "COUNTS" 783 (.ref 472),en P "condition_of" 790 (.ref 479),en P "place_of" 797 (.ref 486),en P "word_at" 805 (.ref 493),en P "read_says" 816 (.ref 500),en P "read_count" 822 (.ref 505),en P "read_condition" 835 (.ref 512),en P "read_deal" 843 (.ref 519),en P "read_clause" 852 (.ref 526),en P "clauses_in" 858 (.ref 531),en P "read_rule" 864 (.ref 536),en P "MOST_FIGURES" 868 (.int (60) 867),en P "are_figures" 874 (.ref 541),en P "number_of" 882 (.ref 548),en P "numbers_of" 888 (.ref 553),en P "hand_from" 894 (.ref 558),en P "read_house" 900 (.ref 563),en P "read_weights" 908 (.ref 570),en P "grids_of" 916 (.ref 575),en P "paper" 926 (.ref 582),en P "verdict" 939 (.ref 589),en P "asked_of" 950 (.ref 596),en P "asked" 956 (.ref 601),en P "rule_table" 966 (.ref 608),en P "weighted_table" 975 (.ref 615),en P "row_from" 984 (.ref 622),en P "deal_told" 993 (.ref 629),en P "pays_told" 999 (.ref 634),en P "ring_told" 1005 (.ref 639),en P "verdict_told" 1015 (.ref 646),en P "place_of_hand" 1024 (.ref 653),en P "menu_told" 1030 (.ref 658),en P "MAKERS" 1035 (.ref 659),en P "ANSWERS" 1044 (.ref 660)] 116),#[]⟩
def o659(P:Params):Obj:=⟨(.type "dict"),none,(.dict #[en P "rule" 1031 (.ref 608),en P "best" 1032 (.ref 615)] 2),#[]⟩
def o660(P:Params):Obj:=⟨(.type "dict"),none,(.dict #[en P "deal" 1036 (.ref 629),en P "pays" 1037 (.ref 634),en P "verdict" 1038 (.ref 646),en P "menu" 1039 (.ref 658)] 4),#[]⟩
def t5(P:Params):BT:=ia ((t4 P).set 3 fun _=>o3_4 P) 659 [o659 P,o660 P]
def o3_5(P:Params):Obj:=⟨(.type "dict"),none,(.dict #[en P "__name__" 165 (.str "law_trueword_k72_houses_and_best_said" 1093),en P "__doc__" 166 .none,en P "__package__" 167 .none,en P "__loader__" 168 (.builtin "__main__.__loader__#opaque"),en P "__spec__" 169 .none,en P "__annotations__" 170 (.ref 6),en P "__builtins__" 171 (.ref 4),en P "__file__" 173 (.str "/claim/cut.py" 172),en P "__cached__" 174 .none,en P "TrueError" 206 (.ref 24),en P "NoPays" 222 (.ref 37),en P "NoHouse" 238 (.ref 49),en P "NoMenu" 254 (.ref 61),en P "NoWeight" 270 (.ref 73),en P "NoShare" 286 (.ref 85),en P "NoRule" 302 (.ref 97),en P "NoRow" 318 (.ref 109),en P "NoStand" 334 (.ref 121),en P "NoWord" 350 (.ref 133),en P "MOST_WORDS" 354 (.int (8) 353),en P "is_whole" 361 (.ref 142),en P "is_bounded" 368 (.ref 149),en P "is_grid_row" 374 (.ref 154),en P "turn" 383 (.ref 161),en P "gain" 393 (.ref 168),en P "first_gain" 404 (.ref 175),en P "MOST_LETTERS" 408 (.int (8) 407),en P "MOST_OUTCOMES" 410 (.int (8) 409),en P "MOST_HANDS" 412 (.int (4) 411),en P "MOST_ROWS" 414 (.int (256) 413),en P "is_name" 420 (.ref 180),en P "are_names" 426 (.ref 185),en P "are_worths" 432 (.ref 190),en P "is_hand" 440 (.ref 197),en P "name_of" 447 (.ref 204),en P "names_of" 453 (.ref 209),en P "words_of_hand" 460 (.ref 216),en P "worths_of_hand" 467 (.ref 223),en P "worths_by" 475 (.ref 230),en P "count_of_rows" 484 (.ref 237),en P "makes_house" 490 (.ref 242),en P "kept_hand" 496 (.ref 247),en P "house_of" 502 (.ref 252),en P "outcomes_of" 509 (.ref 259),en P "hands_of" 516 (.ref 266),en P "with_each" 522 (.ref 271),en P "rows_over" 531 (.ref 278),en P "rows_of" 538 (.ref 285),en P "without" 546 (.ref 292),en P "others_of" 554 (.ref 299),en P "row_with" 563 (.ref 306),en P "are_weights" 571 (.ref 311),en P "are_handicaps" 579 (.ref 318),en P "refuse_weights" 588 (.ref 325),en P "part_of" 594 (.ref 330),en P "parts_of" 600 (.ref 335),en P "scores" 606 (.ref 340),en P "best_place" 613 (.ref 347),en P "best_outcome" 623 (.ref 354),en P "best_table" 629 (.ref 359),en P "holds" 640 (.ref 366),en P "dealt" 646 (.ref 371),en P "table_of" 652 (.ref 376),en P "total_of" 661 (.ref 383),en P "words_of" 668 (.ref 390),en P "walks_of_one_turn" 674 (.ref 395),en P "least_to" 680 (.ref 400),en P "lengthened" 686 (.ref 405),en P "after_a_turn" 692 (.ref 410),en P "has_honest" 698 (.ref 415),en P "closed_below_zero" 707 (.ref 422),en P "ring" 713 (.ref 427),en P "refuse_ring" 722 (.ref 434),en P "lesser" 730 (.ref 441),en P "least_roads" 736 (.ref 446),en P "greatest" 744 (.ref 451),en P "dealt_places" 752 (.ref 456),en P "worths_at" 758 (.ref 461),en P "grid_of" 764 (.ref 466),en P "menu_of" 772 (.ref 471),en P "MOST_CLAUSES" 776 (.int (20) 775),en P "MOST_CLAUSE_WORDS" 778 (.int (40) 777),en P "COUNTS" 783 (.ref 472),en P "condition_of" 790 (.ref 479),en P "place_of" 797 (.ref 486),en P "word_at" 805 (.ref 493),en P "read_says" 816 (.ref 500),en P "read_count" 822 (.ref 505),en P "read_condition" 835 (.ref 512),en P "read_deal" 843 (.ref 519),en P "read_clause" 852 (.ref 526),en P "clauses_in" 858 (.ref 531),en P "read_rule" 864 (.ref 536),en P "MOST_FIGURES" 868 (.int (60) 867),en P "are_figures" 874 (.ref 541),en P "number_of" 882 (.ref 548),en P "numbers_of" 888 (.ref 553),en P "hand_from" 894 (.ref 558),en P "read_house" 900 (.ref 563),en P "read_weights" 908 (.ref 570),en P "grids_of" 916 (.ref 575),en P "paper" 926 (.ref 582),en P "verdict" 939 (.ref 589),en P "asked_of" 950 (.ref 596),en P "asked" 956 (.ref 601),en P "rule_table" 966 (.ref 608),en P "weighted_table" 975 (.ref 615),en P "row_from" 984 (.ref 622),en P "deal_told" 993 (.ref 629),en P "pays_told" 999 (.ref 634),en P "ring_told" 1005 (.ref 639),en P "verdict_told" 1015 (.ref 646),en P "place_of_hand" 1024 (.ref 653),en P "menu_told" 1030 (.ref 658),en P "MAKERS" 1035 (.ref 659),en P "ANSWERS" 1044 (.ref 660),en P "refuse_row" 1052 (.ref 667),en P "Desk" 1092 (.ref 691),en P "_law_cell" 1102 (.ref 702),en P "_law_number" 1110 (.ref 709),en P "_law_names" 1116 (.ref 714),en P "_law_hands" 1122 (.ref 719),en P "_law_rows" 1134 (.ref 726),en P "_law_worths" 1142 (.ref 733),en P "_law_weights" 1148 (.ref 738),en P "_law_handicaps" 1154 (.ref 743),en P "_law_scores" 1168 (.ref 750),en P "_law_house_row" 1174 (.ref 755),en P "_law_best_row" 1180 (.ref 760),en P "_law_no_stand" 1191 (.ref 767),en P "_law_no_row" 1202 (.ref 774),en P "_law_none" 1208 (.ref 779),en P "_law_dealt" 1223 (.ref 786),en P "_law_weighed" 1234 (.ref 793),en P "law" 1240 (.ref 798)] 135),#[]⟩
def o666:Obj:=(co "refuse_row" 1045 365 1 3 661 true 662 .none (.ref 663) (.ref 664) (.ref 665) 1050)
def o667:Obj:=(fo 121 "refuse_row" "trueword.desk" 957 666)
def o670(P:Params):Obj:=⟨(.type "dict"),none,(.dict #[en P "__module__" 1060 (.str "trueword.desk" 957),en P "__qualname__" 1062 (.str "Desk" 1061),en P "__firstlineno__" 1064 (.int (373) 1063),en P "__init__" 1071 (.ref 681),en P "say" 1082 (.ref 688),en P "__static_attributes__" 1085 (.ref 689)] 6),#[]⟩
def o673:Obj:=(co "Desk" 1055 373 0 0 671 false 672 .none .none .none .none 1058)
def o680:Obj:=⟨(.type "code"),none,(.fields #[(.str "__init__" 1065),(.str "Desk.__init__" 1066),(.str "/claim/cut.py" 1067),(.int (375) 0),(.int (1) 0),(.int (0) 0),(.int (0) 0),(.int (3) 0),(.ref 675),(.bool true),(.int (181) 0),(.ref 676),.none,(.ref 677),(.ref 678),(.ref 679),(.int (1069) 0),(.int (375) 0),(.str "/claim/cut.py" 1070)]),#[]⟩
def o681:Obj:=⟨(.type "function"),none,(.func (fn 1122 "__init__" "Desk.__init__" .none .none .none (.str "trueword.desk" 957) none (.ref 680) .none)),#[]⟩
def o687:Obj:=⟨(.type "code"),none,(.fields #[(.str "say" 1072),(.str "Desk.say" 1073),(.str "/claim/cut.py" 1074),(.int (379) 0),(.int (2) 0),(.int (0) 0),(.int (0) 0),(.int (3) 0),(.ref 682),(.bool true),(.int (181) 0),(.ref 683),.none,(.ref 684),(.ref 685),(.ref 686),(.int (1080) 0),(.int (379) 0),(.str "/claim/cut.py" 1081)]),#[]⟩
def o688:Obj:=⟨(.type "function"),none,(.func (fn 2122 "say" "Desk.say" .none .none .none (.str "trueword.desk" 957) none (.ref 687) .none)),#[]⟩
def o690(P:Params):Obj:=⟨(.type "dict"),none,(.dict #[en P "__module__" 1060 (.str "trueword.desk" 957),en P "__firstlineno__" 1064 (.int (373) 1063),en P "__init__" 1071 (.ref 681),en P "say" 1082 (.ref 688),en P "__static_attributes__" 1085 (.ref 689),en P "__dict__" 1087 (.ref 692),en P "__weakref__" 1089 (.ref 693),en P "__doc__" 1090 .none] 4),#[]⟩
def o691:Obj:=⟨(.type "type"),none,(.cls ⟨"Desk", [(.type "object")],[(.ref 691),(.type "object")],690, "Desk", true,[],[],false,none,false⟩),#[none,none,(some (.str "Desk" 1053)),(some (.str "Desk" 1061)),(some (.builtin "object.__new__")),(some (.bool true))]⟩
def o701:Obj:=(co "_law_cell" 1095 397 2 3 696 true 697 .none (.ref 698) (.ref 699) (.ref 700) 1100)
def o702:Obj:=(fo 124 "_law_cell" "law_trueword_k72_houses_and_best_said" 1093 701)
def o708:Obj:=(co "_law_number" 1103 401 2 3 703 true 704 .none (.ref 705) (.ref 706) (.ref 707) 1108)
def o709:Obj:=(fo 125 "_law_number" "law_trueword_k72_houses_and_best_said" 1093 708)
def o713:Obj:=(co "_law_names" 1111 409 2 3 710 true 711 .none .none .none (.ref 712) 1114)
def o714:Obj:=(fo 126 "_law_names" "law_trueword_k72_houses_and_best_said" 1093 713)
def o718:Obj:=(co "_law_hands" 1117 424 3 3 715 true 716 .none .none .none (.ref 717) 1120)
def o719:Obj:=(fo 127 "_law_hands" "law_trueword_k72_houses_and_best_said" 1093 718)
def o725:Obj:=(co "_law_rows" 1123 437 1 3 720 true 721 .none (.ref 722) (.ref 723) (.ref 724) 1132)
def o726:Obj:=(fo 128 "_law_rows" "law_trueword_k72_houses_and_best_said" 1093 725)
def o732:Obj:=(co "_law_worths" 1135 446 2 3 727 true 728 .none (.ref 729) (.ref 730) (.ref 731) 1140)
def o733:Obj:=(fo 129 "_law_worths" "law_trueword_k72_houses_and_best_said" 1093 732)
def o737:Obj:=(co "_law_weights" 1143 448 2 3 734 true 735 .none .none .none (.ref 736) 1146)
def o738:Obj:=(fo 130 "_law_weights" "law_trueword_k72_houses_and_best_said" 1093 737)
def o742:Obj:=(co "_law_handicaps" 1149 450 2 3 739 true 740 .none .none .none (.ref 741) 1152)
def o743:Obj:=(fo 131 "_law_handicaps" "law_trueword_k72_houses_and_best_said" 1093 742)
def o749:Obj:=(co "_law_scores" 1155 452 4 3 744 true 745 .none (.ref 746) (.ref 747) (.ref 748) 1166)
def o750:Obj:=(fo 132 "_law_scores" "law_trueword_k72_houses_and_best_said" 1093 749)
def o754:Obj:=(co "_law_house_row" 1169 459 2 3 751 true 752 .none .none .none (.ref 753) 1172)
def o755:Obj:=(fo 133 "_law_house_row" "law_trueword_k72_houses_and_best_said" 1093 754)
def o759:Obj:=(co "_law_best_row" 1175 467 2 3 756 true 757 .none .none .none (.ref 758) 1178)
def o760:Obj:=(fo 134 "_law_best_row" "law_trueword_k72_houses_and_best_said" 1093 759)
def o766:Obj:=(co "_law_no_stand" 1181 469 2 3 761 true 762 .none (.ref 763) (.ref 764) (.ref 765) 1189)
def o767:Obj:=(fo 135 "_law_no_stand" "law_trueword_k72_houses_and_best_said" 1093 766)
def o773:Obj:=(co "_law_no_row" 1192 477 2 3 768 true 769 .none (.ref 770) (.ref 771) (.ref 772) 1200)
def o774:Obj:=(fo 136 "_law_no_row" "law_trueword_k72_houses_and_best_said" 1093 773)
def o778:Obj:=(co "_law_none" 1203 485 2 3 775 true 776 .none .none .none (.ref 777) 1206)
def o779:Obj:=(fo 137 "_law_none" "law_trueword_k72_houses_and_best_said" 1093 778)
def o785:Obj:=(co "_law_dealt" 1209 494 5 3 780 true 781 .none (.ref 782) (.ref 783) (.ref 784) 1221)
def o786:Obj:=(fo 138 "_law_dealt" "law_trueword_k72_houses_and_best_said" 1093 785)
def o792:Obj:=(co "_law_weighed" 1224 504 5 3 787 true 788 .none (.ref 789) (.ref 790) (.ref 791) 1232)
def o793:Obj:=(fo 139 "_law_weighed" "law_trueword_k72_houses_and_best_said" 1093 792)
def o797:Obj:=(co "law" 1235 508 1 3 794 true 795 .none .none .none (.ref 796) 1238)
def o798:Obj:=(fo 140 "law" "law_trueword_k72_houses_and_best_said" 1093 797)
def t6(P:Params):BT:=ia (((t5 P).set 3 fun _=>o3_5 P).set 12 fun _=>⟨.none,none,(.fields #[(.int (2) 0),(.int (0) 0),(.ref 20),(.int (4) 0),(.int (0) 0),(.ref 33),(.int (6) 0),(.int (0) 0),(.ref 45),(.int (8) 0),(.int (0) 0),(.ref 57),(.int (10) 0),(.int (0) 0),(.ref 69),(.int (12) 0),(.int (0) 0),(.ref 81),(.int (14) 0),(.int (0) 0),(.ref 93),(.int (16) 0),(.int (0) 0),(.ref 105),(.int (18) 0),(.int (0) 0),(.ref 117),(.int (20) 0),(.int (0) 0),(.ref 129),(.int (24) 0),(.int (0) 0),(.ref 141),(.int (26) 0),(.int (0) 0),(.ref 148),(.int (28) 0),(.int (0) 0),(.ref 153),(.int (32) 0),(.int (0) 0),(.ref 160),(.int (34) 0),(.int (0) 0),(.ref 167),(.int (36) 0),(.int (0) 0),(.ref 174),(.int (48) 0),(.int (0) 0),(.ref 179),(.int (52) 0),(.int (0) 0),(.ref 184),(.int (56) 0),(.int (0) 0),(.ref 189),(.int (60) 0),(.int (0) 0),(.ref 196),(.int (64) 0),(.int (0) 0),(.ref 203),(.int (66) 0),(.int (0) 0),(.ref 208),(.int (68) 0),(.int (0) 0),(.ref 215),(.int (70) 0),(.int (0) 0),(.ref 222),(.int (72) 0),(.int (0) 0),(.ref 229),(.int (74) 0),(.int (0) 0),(.ref 236),(.int (79) 0),(.int (0) 0),(.ref 241),(.int (85) 0),(.int (0) 0),(.ref 246),(.int (88) 0),(.int (0) 0),(.ref 251),(.int (92) 0),(.int (0) 0),(.ref 258),(.int (94) 0),(.int (0) 0),(.ref 265),(.int (96) 0),(.int (0) 0),(.ref 270),(.int (101) 0),(.int (0) 0),(.ref 277),(.int (106) 0),(.int (0) 0),(.ref 284),(.int (108) 0),(.int (0) 0),(.ref 291),(.int (110) 0),(.int (0) 0),(.ref 298),(.int (112) 0),(.int (0) 0),(.ref 305),(.int (115) 0),(.int (0) 0),(.ref 310),(.int (117) 0),(.int (0) 0),(.ref 317),(.int (119) 0),(.int (0) 0),(.ref 324),(.int (124) 0),(.int (0) 0),(.ref 329),(.int (126) 0),(.int (0) 0),(.ref 334),(.int (128) 0),(.int (0) 0),(.ref 339),(.int (134) 0),(.int (0) 0),(.ref 346),(.int (136) 0),(.int (0) 0),(.ref 353),(.int (138) 0),(.int (0) 0),(.ref 358),(.int (141) 0),(.int (0) 0),(.ref 365),(.int (154) 0),(.int (0) 0),(.ref 370),(.int (156) 0),(.int (0) 0),(.ref 375),(.int (159) 0),(.int (0) 0),(.ref 382),(.int (161) 0),(.int (0) 0),(.ref 389),(.int (163) 0),(.int (0) 0),(.ref 394),(.int (165) 0),(.int (0) 0),(.ref 399),(.int (168) 0),(.int (0) 0),(.ref 404),(.int (170) 0),(.int (0) 0),(.ref 409),(.int (172) 0),(.int (0) 0),(.ref 414),(.int (177) 0),(.int (0) 0),(.ref 421),(.int (182) 0),(.int (0) 0),(.ref 426),(.int (193) 0),(.int (0) 0),(.ref 433),(.int (196) 0),(.int (0) 0),(.ref 440),(.int (198) 0),(.int (0) 0),(.ref 445),(.int (203) 0),(.int (0) 0),(.ref 450),(.int (208) 0),(.int (0) 0),(.ref 455),(.int (211) 0),(.int (0) 0),(.ref 460),(.int (213) 0),(.int (0) 0),(.ref 465),(.int (217) 0),(.int (0) 0),(.ref 470),(.int (225) 0),(.int (0) 0),(.ref 478),(.int (227) 0),(.int (0) 0),(.ref 485),(.int (229) 0),(.int (0) 0),(.ref 492),(.int (233) 0),(.int (0) 0),(.ref 499),(.int (241) 0),(.int (0) 0),(.ref 504),(.int (247) 0),(.int (0) 0),(.ref 511),(.int (261) 0),(.int (0) 0),(.ref 518),(.int (265) 0),(.int (0) 0),(.ref 525),(.int (270) 0),(.int (0) 0),(.ref 530),(.int (275) 0),(.int (0) 0),(.ref 535),(.int (283) 0),(.int (0) 0),(.ref 540),(.int (285) 0),(.int (0) 0),(.ref 547),(.int (290) 0),(.int (0) 0),(.ref 552),(.int (292) 0),(.int (0) 0),(.ref 557),(.int (296) 0),(.int (0) 0),(.ref 562),(.int (299) 0),(.int (0) 0),(.ref 569),(.int (305) 0),(.int (0) 0),(.ref 574),(.int (310) 0),(.int (0) 0),(.ref 581),(.int (313) 0),(.int (0) 0),(.ref 588),(.int (321) 0),(.int (0) 0),(.ref 595),(.int (324) 0),(.int (0) 0),(.ref 600),(.int (329) 0),(.int (0) 0),(.ref 607),(.int (331) 0),(.int (0) 0),(.ref 614),(.int (334) 0),(.int (0) 0),(.ref 621),(.int (339) 0),(.int (0) 0),(.ref 628),(.int (341) 0),(.int (0) 0),(.ref 633),(.int (343) 0),(.int (0) 0),(.ref 638),(.int (346) 0),(.int (0) 0),(.ref 645),(.int (351) 0),(.int (0) 0),(.ref 652),(.int (356) 0),(.int (0) 0),(.ref 657),(.int (365) 0),(.int (0) 0),(.ref 666),(.int (373) 0),(.int (0) 0),(.ref 673),(.int (397) 0),(.int (0) 0),(.ref 701),(.int (401) 0),(.int (0) 0),(.ref 708),(.int (409) 0),(.int (0) 0),(.ref 713),(.int (424) 0),(.int (0) 0),(.ref 718),(.int (437) 0),(.int (0) 0),(.ref 725),(.int (446) 0),(.int (0) 0),(.ref 732),(.int (448) 0),(.int (0) 0),(.ref 737),(.int (450) 0),(.int (0) 0),(.ref 742),(.int (452) 0),(.int (0) 0),(.ref 749),(.int (459) 0),(.int (0) 0),(.ref 754),(.int (467) 0),(.int (0) 0),(.ref 759),(.int (469) 0),(.int (0) 0),(.ref 766),(.int (477) 0),(.int (0) 0),(.ref 773),(.int (485) 0),(.int (0) 0),(.ref 778),(.int (494) 0),(.int (0) 0),(.ref 785),(.int (504) 0),(.int (0) 0),(.ref 792),(.int (508) 0),(.int (0) 0),(.ref 797)]),#[]⟩) 661 [oE,oF,(ts 1048 ["row", "first"]),oE,(xo 121 "refuse_row"),o666,o667,oE,⟨(.type "builtin_function_or_method"),none,(.fields #[(.builtin "type.__prepare__"),(.type "type")]),#[]⟩,o670 P,oE,⟨.none,none,(.fields #[(.int (375) 0),(.int (4) 0),(.ref 680),(.int (379) 0),(.int (4) 0),(.ref 687)]),#[]⟩,o673,⟨(.type "frame"),none,.plain,#[(some (.ref 673)),(some (.ref 3)),(some (.ref 670)),none,(some (.str "trueword.desk" 957)),none,(some (.ref 0))]⟩,oE,oF,(ts 1068 ["self"]),oE,⟨.none,none,(.func (fx 1122 "__init__" "Desk.__init__" 0 .none .none .none .none none .none .none 0)),#[]⟩,o680,o681,oE,oF,(ts 1075 ["self", "row", "parts", "first", "rest"]),oE,⟨.none,none,(.func (fx 2122 "say" "Desk.say" 0 .none .none .none .none none .none .none 0)),#[]⟩,o687,o688,(ts 1083 ["house", "table"]),o690 P,o691,⟨(.type "getset_descriptor"),none,(.fields #[(.str "__dict__" 1086),(.ref 691),(.builtin "function.__dict__"),(.builtin "function.__dict__#set")]),#[]⟩,⟨(.type "getset_descriptor"),none,(.fields #[(.str "__weakref__" 1088),(.ref 691),(.builtin "ExceptionGroup.__weakref__"),.none]),#[]⟩,⟨(.type "super"),none,(.fields #[(.ref 691),(.ref 691),(.ref 691)]),#[]⟩,⟨(.type "builtin_function_or_method"),none,(.fields #[(.builtin "object.__init_subclass__"),(.ref 691)]),#[]⟩,oE,oF,(ts 1098 ["script", "k"]),oE,(xo 124 "_law_cell"),o701,o702,oE,oF,(ts 1106 ["cell", "top"]),oE,(xo 125 "_law_number"),o708,o709,oE,oF,(xo 126 "_law_names"),o713,o714,oE,oF,(xo 127 "_law_hands"),o718,o719,oE,oF,(ts 1126 ["hands", "rows", "hand", "longer_ones", "row", "word"]),oE,(xo 128 "_law_rows"),o725,o726,oE,oF,(ts 1138 ["hand", "word"]),oE,(xo 129 "_law_worths"),o732,o733,oE,oF,(xo 130 "_law_weights"),o737,o738,oE,oF,(xo 131 "_law_handicaps"),o742,o743,oE,oF,(ts 1158 ["hands", "weights", "handicaps", "row", "found", "k", "worths", "j"]),oE,(xo 132 "_law_scores"),o749,o750,oE,oF,(xo 133 "_law_house_row"),o754,o755,oE,oF,(xo 134 "_law_best_row"),o759,o760,oE,oF,(ts 1184 ["desk", "row", "told", "e", "others"]),oE,(xo 135 "_law_no_stand"),o766,o767,oE,oF,(ts 1195 ["desk", "row", "told", "e", "others"]),oE,(xo 136 "_law_no_row"),o773,o774,oE,oF,(xo 137 "_law_none"),o778,o779,oE,oF,(ts 1212 ["desk", "hands", "outcomes", "weights", "handicaps", "row", "numbers", "place", "j"]),oE,(xo 138 "_law_dealt"),o785,o786,oE,oF,(ts 1227 ["desk", "hands", "outcomes", "weights", "handicaps"]),oE,(xo 139 "_law_weighed"),o792,o793,oE,oF,(xo 140 "law"),o797,o798]
def hf(P:Params):Heap:=absHeap (t6 P) 799 (lf P)
def s0(w:World)(os:OsState):SharedT:=⟨t0 w.params,15,lf w.params,Array.mk [],boot_drawn,187,os⟩
def s1(w:World)(os:OsState):SharedT:=⟨t1 w.params,100,lf w.params,Array.mk [],boot_drawn,303,os⟩
def s2(w:World)(os:OsState):SharedT:=⟨t2 w.params,307,lf w.params,Array.mk [],boot_drawn,566,os⟩
def s3(w:World)(os:OsState):SharedT:=⟨t3 w.params,590,lf w.params,Array.mk [],boot_drawn,940,os⟩
def s4(w:World)(os:OsState):SharedT:=⟨t4 w.params,659,lf w.params,Array.mk [],boot_drawn,1031,os⟩
def s5(w:World)(os:OsState):SharedT:=⟨t5 w.params,661,lf w.params,Array.mk [],boot_drawn,1045,os⟩
def s6(w:World)(os:OsState):SharedT:=⟨t6 w.params,799,lf w.params,Array.mk [],boot_drawn,1241,os⟩
def l0:List Stmt:=(pr.main.body.drop 0).take 8
def l1:List Stmt:=(pr.main.body.drop 8).take 38
def l2:List Stmt:=(pr.main.body.drop 46).take 61
def l3:List Stmt:=(pr.main.body.drop 107).take 12
def l4:List Stmt:=(pr.main.body.drop 119).take 2
def l5:List Stmt:=(pr.main.body.drop 121).take 20
theorem bs:behindTheImports pr=l0++(l1++(l2++(l3++(l4++(l5++([])))))):=by kernel_rfl
theorem r_pre(w:World)(os:OsState):topGo treeTable pr w 11 (some (.ref 6)) 12 ⟨boot_heap w.params,Array.mk [],boot_drawn,boot_toks,os⟩ (topStub pr)=some (⟨ha w.params,Array.mk [],boot_drawn,187,os⟩,⟨denote treeTable cd,cd,⟨0,0,0,0⟩,[topFrame qp]⟩):=by kernel_rfl
theorem zls(w:World)(os:OsState):segRun treeTable pr w 11 (some (.ref 6)) 1 1 ⟨ha w.params,Array.mk [],boot_drawn,187,os⟩ (blockOf (behindTheImports pr) env cd ⟨0,0,0,0⟩ [topFrame qp])=some (.next,(s0 w os).abs,cd,⟨0,0,0,0⟩):=by kernel_rfl
theorem r0(w:World)(os:OsState):segRunT treeTable pr w 11 (some (.ref 6)) 1 1474 (s0 w os) (piecesOf l0 env cd ⟨0,0,0,0⟩ [topFrame qp])=some (.next,s1 w os,cd,⟨14,0,15,8⟩):=by
  rw[PySem.W.Fast.te10110043849684766642,PySem.W.Fast.te14364793385576792824];kernel_rfl
theorem r1(w:World)(os:OsState):segRunT treeTable pr w 11 (some (.ref 6)) 1 1487 (s1 w os) (piecesOf l1 env cd ⟨14,0,15,8⟩ [topFrame qp])=some (.next,s2 w os,cd,⟨114,0,114,8⟩):=by
  rw[PySem.W.Fast.te10110043849684766642,PySem.W.Fast.te14364793385576792824];kernel_rfl
theorem r2(w:World)(os:OsState):segRunT treeTable pr w 11 (some (.ref 6)) 1 1470 (s2 w os) (piecesOf l2 env cd ⟨114,0,114,8⟩ [topFrame qp])=some (.next,s3 w os,cd,⟨313,0,320,27⟩):=by
  rw[PySem.W.Fast.te10110043849684766642,PySem.W.Fast.te14364793385576792824];kernel_rfl
theorem r3(w:World)(os:OsState):segRunT treeTable pr w 11 (some (.ref 6)) 1 333 (s3 w os) (piecesOf l3 env cd ⟨313,0,320,27⟩ [topFrame qp])=some (.next,s4 w os,cd,⟨356,0,362,106⟩):=by
  rw[PySem.W.Fast.te10110043849684766642,PySem.W.Fast.te14364793385576792824];kernel_rfl
theorem r4(w:World)(os:OsState):segRunT treeTable pr w 11 (some (.ref 6)) 1 117 (s4 w os) (piecesOf l4 env cd ⟨356,0,362,106⟩ [topFrame qp])=some (.next,s5 w os,cd,⟨364,0,364,7⟩) :=
  byRow2 "special-get-raises" (P:=fun w=>∀os:OsState,segRunT treeTable pr w 11 (some (.ref 6)) 1 117 (s4 w os) (piecesOf l4 env cd ⟨356,0,362,106⟩ [topFrame qp])=some (.next,s5 w os,cd,⟨364,0,364,7⟩)) (fun w os=>by
    show segRunT treeTable pr (w.withFollow "special-get-raises" false) 11 (some (.ref 6)) 1 117 (s4 (w.withFollow "special-get-raises" false) os) (piecesOf l4 env cd ⟨356,0,362,106⟩ [topFrame qp])=some (.next,s5 (w.withFollow "special-get-raises" false) os,cd,⟨364,0,364,7⟩)
    rw[PySem.W.Fast.te10110043849684766642,PySem.W.Fast.te14364793385576792824];kernel_rfl) (fun w os=>by
    show segRunT treeTable pr (w.withFollow "special-get-raises" true) 11 (some (.ref 6)) 1 117 (s4 (w.withFollow "special-get-raises" true) os) (piecesOf l4 env cd ⟨356,0,362,106⟩ [topFrame qp])=some (.next,s5 (w.withFollow "special-get-raises" true) os,cd,⟨364,0,364,7⟩)
    rw[PySem.W.Fast.te10110043849684766642,PySem.W.Fast.te14364793385576792824];kernel_rfl) w os
theorem r5(w:World)(os:OsState):segRunT treeTable pr w 11 (some (.ref 6)) 1 801 (s5 w os) (piecesOf l5 env cd ⟨364,0,364,7⟩ [topFrame qp])=some (.next,s6 w os,cd,⟨508,0,539,87⟩):=by
  rw[PySem.W.Fast.te10110043849684766642,PySem.W.Fast.te14364793385576792824];kernel_rfl
theorem r_fin(w:World)(os:OsState):topRun treeTable pr w 11 (some (.ref 6)) 2 (s6 w os).abs ⟨doneF .next,cd,⟨508,0,539,87⟩,[topFrame qp]⟩=some ⟨hf w.params,Array.mk [],boot_drawn,1241,os⟩:=by kernel_rfl
theorem r_rest(w:World)(os:OsState):topRun treeTable pr w 11 (some (.ref 6)) (1474+(1487+(1470+(333+(117+(801+(2))))))) (s0 w os).abs (restOf (behindTheImports pr) env cd ⟨0,0,0,0⟩ [topFrame qp])=some ⟨hf w.params,Array.mk [],boot_drawn,1241,os⟩:=by
  have k:=piece_app (segRun_of (r0 w os)) (piece_app (segRun_of (r1 w os)) (piece_app (segRun_of (r2 w os)) (piece_app (segRun_of (r3 w os)) (piece_app (segRun_of (r4 w os)) (piece_app (segRun_of (r5 w os)) (piece_nil (r_fin w os)))))));exact(congrArg (fun b=>topRun treeTable pr w 11 (some (.ref 6)) (1474+(1487+(1470+(333+(117+(801+(2))))))) (s0 w os).abs (restOf b env cd ⟨0,0,0,0⟩ [topFrame qp])) bs).trans k
theorem r_all(w:World)(os:OsState):topRun treeTable pr w 11 (some (.ref 6)) (12+(1+(1474+(1487+(1470+(333+(117+(801+(2))))))))) ⟨boot_heap w.params,Array.mk [],boot_drawn,boot_toks,os⟩ (topStub pr)=some ⟨hf w.params,Array.mk [],boot_drawn,1241,os⟩:=go_top (r_pre w os) (piece_block (zls w os) (r_rest w os))
def ks:List Addr:=[3,13,17,20,23,24,30,33,36,37,42,45,48,49,54,57,60,61,66,69,72,73,78,81,84,85,90,93,96,97,102,105,108,109,114,117,120,121,126,129,132,133,141,142,148,149,153,154,160,161,167,168,174,175,179,180,184,185,189,190,196,197,203,204,208,209,215,216,222,223,229,230,236,237,241,242,246,247,251,252,258,259,265,266,270,271,277,278,284,285,291,292,298,299,305,306,310,311,317,318,324,325,329,330,334,335,339,340,346,347,353,354,358,359,365,366,370,371,375,376,382,383,389,390,394,395,399,400,404,405,409,410,414,415,421,422,426,427,433,434,440,441,445,446,450,451,455,456,460,461,465,466,470,471,472,478,479,485,486,492,493,499,500,504,505,511,512,518,519,525,526,530,531,535,536,540,541,547,548,552,553,557,558,562,563,569,570,574,575,581,582,588,589,595,596,600,601,607,608,614,615,621,622,628,629,633,634,638,639,645,646,652,653,657,658,659,660,666,667,670,673,680,681,687,688,690,691,701,702,708,709,713,714,718,719,725,726,732,733,737,738,742,743,749,750,754,755,759,760,766,767,773,774,778,779,785,786,792,793,797,798]
def K:Params->Frag:=fun P=>(nat_lit 3,o3_5 P)::(nat_lit 13,o13)::(nat_lit 17,o17 P)::(nat_lit 20,o20)::(nat_lit 23,o23 P)::(nat_lit 24,o24_1)::(nat_lit 30,o30 P)::(nat_lit 33,o33)::(nat_lit 36,o36 P)::(nat_lit 37,o37)::(nat_lit 42,o42 P)::(nat_lit 45,o45)::(nat_lit 48,o48 P)::(nat_lit 49,o49)::(nat_lit 54,o54 P)::(nat_lit 57,o57)::(nat_lit 60,o60 P)::(nat_lit 61,o61)::(nat_lit 66,o66 P)::(nat_lit 69,o69)::(nat_lit 72,o72 P)::(nat_lit 73,o73)::(nat_lit 78,o78 P)::(nat_lit 81,o81)::(nat_lit 84,o84 P)::(nat_lit 85,o85)::(nat_lit 90,o90 P)::(nat_lit 93,o93)::(nat_lit 96,o96 P)::(nat_lit 97,o97)::(nat_lit 102,o102 P)::(nat_lit 105,o105)::(nat_lit 108,o108 P)::(nat_lit 109,o109)::(nat_lit 114,o114 P)::(nat_lit 117,o117)::(nat_lit 120,o120 P)::(nat_lit 121,o121)::(nat_lit 126,o126 P)::(nat_lit 129,o129)::(nat_lit 132,o132 P)::(nat_lit 133,o133)::(nat_lit 141,o141)::(nat_lit 142,o142)::(nat_lit 148,o148)::(nat_lit 149,o149)::(nat_lit 153,o153)::(nat_lit 154,o154)::(nat_lit 160,o160)::(nat_lit 161,o161)::(nat_lit 167,o167)::(nat_lit 168,o168)::(nat_lit 174,o174)::(nat_lit 175,o175)::(nat_lit 179,o179)::(nat_lit 180,o180)::(nat_lit 184,o184)::(nat_lit 185,o185)::(nat_lit 189,o189)::(nat_lit 190,o190)::(nat_lit 196,o196)::(nat_lit 197,o197)::(nat_lit 203,o203)::(nat_lit 204,o204)::(nat_lit 208,o208)::(nat_lit 209,o209)::(nat_lit 215,o215)::(nat_lit 216,o216)::(nat_lit 222,o222)::(nat_lit 223,o223)::(nat_lit 229,o229)::(nat_lit 230,o230)::(nat_lit 236,o236)::(nat_lit 237,o237)::(nat_lit 241,o241)::(nat_lit 242,o242)::(nat_lit 246,o246)::(nat_lit 247,o247)::(nat_lit 251,o251)::(nat_lit 252,o252)::(nat_lit 258,o258)::(nat_lit 259,o259)::(nat_lit 265,o265)::(nat_lit 266,o266)::(nat_lit 270,o270)::(nat_lit 271,o271)::(nat_lit 277,o277)::(nat_lit 278,o278)::(nat_lit 284,o284)::(nat_lit 285,o285)::(nat_lit 291,o291)::(nat_lit 292,o292)::(nat_lit 298,o298)::(nat_lit 299,o299)::(nat_lit 305,o305)::(nat_lit 306,o306)::(nat_lit 310,o310)::(nat_lit 311,o311)::(nat_lit 317,o317)::(nat_lit 318,o318)::(nat_lit 324,o324)::(nat_lit 325,o325)::(nat_lit 329,o329)::(nat_lit 330,o330)::(nat_lit 334,o334)::(nat_lit 335,o335)::(nat_lit 339,o339)::(nat_lit 340,o340)::(nat_lit 346,o346)::(nat_lit 347,o347)::(nat_lit 353,o353)::(nat_lit 354,o354)::(nat_lit 358,o358)::(nat_lit 359,o359)::(nat_lit 365,o365)::(nat_lit 366,o366)::(nat_lit 370,o370)::(nat_lit 371,o371)::(nat_lit 375,o375)::(nat_lit 376,o376)::(nat_lit 382,o382)::(nat_lit 383,o383)::(nat_lit 389,o389)::(nat_lit 390,o390)::(nat_lit 394,o394)::(nat_lit 395,o395)::(nat_lit 399,o399)::(nat_lit 400,o400)::(nat_lit 404,o404)::(nat_lit 405,o405)::(nat_lit 409,o409)::(nat_lit 410,o410)::(nat_lit 414,o414)::(nat_lit 415,o415)::(nat_lit 421,o421)::(nat_lit 422,o422)::(nat_lit 426,o426)::(nat_lit 427,o427)::(nat_lit 433,o433)::(nat_lit 434,o434)::(nat_lit 440,o440)::(nat_lit 441,o441)::(nat_lit 445,o445)::(nat_lit 446,o446)::(nat_lit 450,o450)::(nat_lit 451,o451)::(nat_lit 455,o455)::(nat_lit 456,o456)::(nat_lit 460,o460)::(nat_lit 461,o461)::(nat_lit 465,o465)::(nat_lit 466,o466)::(nat_lit 470,o470)::(nat_lit 471,o471)::(nat_lit 472,o472)::(nat_lit 478,o478)::(nat_lit 479,o479)::(nat_lit 485,o485)::(nat_lit 486,o486)::(nat_lit 492,o492)::(nat_lit 493,o493)::(nat_lit 499,o499)::(nat_lit 500,o500)::(nat_lit 504,o504)::(nat_lit 505,o505)::(nat_lit 511,o511)::(nat_lit 512,o512)::(nat_lit 518,o518)::(nat_lit 519,o519)::(nat_lit 525,o525)::(nat_lit 526,o526)::(nat_lit 530,o530)::(nat_lit 531,o531)::(nat_lit 535,o535)::(nat_lit 536,o536)::(nat_lit 540,o540)::(nat_lit 541,o541)::(nat_lit 547,o547)::(nat_lit 548,o548)::(nat_lit 552,o552)::(nat_lit 553,o553)::(nat_lit 557,o557)::(nat_lit 558,o558)::(nat_lit 562,o562)::(nat_lit 563,o563)::(nat_lit 569,o569)::(nat_lit 570,o570)::(nat_lit 574,o574)::(nat_lit 575,o575)::(nat_lit 581,o581)::(nat_lit 582,o582)::(nat_lit 588,o588)::(nat_lit 589,o589)::(nat_lit 595,o595)::(nat_lit 596,o596)::(nat_lit 600,o600)::(nat_lit 601,o601)::(nat_lit 607,o607)::(nat_lit 608,o608)::(nat_lit 614,o614)::(nat_lit 615,o615)::(nat_lit 621,o621)::(nat_lit 622,o622)::(nat_lit 628,o628)::(nat_lit 629,o629)::(nat_lit 633,o633)::(nat_lit 634,o634)::(nat_lit 638,o638)::(nat_lit 639,o639)::(nat_lit 645,o645)::(nat_lit 646,o646)::(nat_lit 652,o652)::(nat_lit 653,o653)::(nat_lit 657,o657)::(nat_lit 658,o658)::(nat_lit 659,o659 P)::(nat_lit 660,o660 P)::(nat_lit 666,o666)::(nat_lit 667,o667)::(nat_lit 670,o670 P)::(nat_lit 673,o673)::(nat_lit 680,o680)::(nat_lit 681,o681)::(nat_lit 687,o687)::(nat_lit 688,o688)::(nat_lit 690,o690 P)::(nat_lit 691,o691)::(nat_lit 701,o701)::(nat_lit 702,o702)::(nat_lit 708,o708)::(nat_lit 709,o709)::(nat_lit 713,o713)::(nat_lit 714,o714)::(nat_lit 718,o718)::(nat_lit 719,o719)::(nat_lit 725,o725)::(nat_lit 726,o726)::(nat_lit 732,o732)::(nat_lit 733,o733)::(nat_lit 737,o737)::(nat_lit 738,o738)::(nat_lit 742,o742)::(nat_lit 743,o743)::(nat_lit 749,o749)::(nat_lit 750,o750)::(nat_lit 754,o754)::(nat_lit 755,o755)::(nat_lit 759,o759)::(nat_lit 760,o760)::(nat_lit 766,o766)::(nat_lit 767,o767)::(nat_lit 773,o773)::(nat_lit 774,o774)::(nat_lit 778,o778)::(nat_lit 779,o779)::(nat_lit 785,o785)::(nat_lit 786,o786)::(nat_lit 792,o792)::(nat_lit 793,o793)::(nat_lit 797,o797)::(nat_lit 798,o798)::[]
theorem ke(P:Params):ks=(K P).map (·.1):=by kernel_rfl
def lo:List Str:=pr.main.scope.names.map (·.1)
def vw:Program:={ pr with main:={ pr.main with body:=[Mine.g9] } }
def fs(w:World)(os:OsState):Shared:=⟨hf w.params,Array.mk [],boot_drawn,1241,os⟩
theorem z_size(w:World):((boot_heap w.params).isNs mainGlobals&&(Array.mk []:Array GenState).size==0,(boot_heap w.params).objs.size,(boot_heap w.params).nsMap mainGlobals "__annotations__")=(true,11,(some (.ref 6))):=by kernel_rfl
theorem z_one(w:World)(os:OsState):(staticsOk (importedModules pr.main.body) (boot_heap w.params) (hf w.params)&&namesBound pr (hf w.params)&&gensDone (fs w os)&&laidKept (boot_heap w.params) (hf w.params))=true:=by kernel_rfl
theorem z_two(w:World)(os:OsState):openSeen vw lo (importedModules pr.main.body) (fun _=>true) true (fs w os)=openGood vw lo:=by
  rw[PySem.W.Fast.te4187177175401517315];kernel_rfl
theorem zl0(w:World)(os:OsState):(kHook K ks ke).obs (fs w os)=(kHook K ks ke).val w:=by kernel_rfl
theorem z_open:opening pr=plainProg pr.main.scope.names:=by kernel_rfl
theorem zle(s:Shared):fenceModules? pr s=some s:=by kernel_rfl
theorem left:LeftO pr vw lo (fun _=>true) (kHook K ks ke).obs (kHook K ks ke).val 1000000 :=
  LeftO.of_pieces (boot_open z_open rfl zle) z_size r_all rfl fun w=>funext fun os=>looks_pair (z_one w os) (looks_pair (z_two w os) (zl0 w os))
end
theorem aok{a b:Bool}(h1:a=true)(h2:b=true):(a&&b)=true:=by rw[h1,h2];rfl
set_option maxRecDepth 100000 in
set_option maxHeartbeats 0 in
theorem ws:PySem.Challenge.rw_trueword_k72_houses_and_best_said.wellSaid=true:=by
  rw[PySem.W.Fast.te9446332074065402090];unfold PySem.W.Fast.tw9446332074065402090 PySem.W.Fast.tw17960256430627541270 PySem.W.Fast.tw2436336058641802641 PySem.W.Fast.tw12908688711261696721
  repeat' (with_reducible apply aok)
  all_goals (as_aux_lemma=>kernel_rfl)
end Tp
open PySem PySem.W PyProof.Rows
set_option maxRecDepth 100000 in
set_option maxHeartbeats 0 in
theorem PySem.Challenge.cw_trueword_k72_houses_and_best_said_holds : PySem.Challenge.rw_trueword_k72_houses_and_best_said.Holds := by
  refine holds_law Tp.ws fun said => ?_
  refine holds_open (q:=Tp.vw) (loose:=Tp.lo) (Xt:=fun _=>true) (XP:=fun _ _=>True) (Yf:=(kHook Tp.K Tp.ks Tp.ke).obs) (Ya:=(kHook Tp.K Tp.ks Tp.ke).val) (YP:=(kHook Tp.K Tp.ks Tp.ke).says) (N:=1000000) Tp.left (kHook Tp.K Tp.ks Tp.ke).of (kHook Tp.K Tp.ks Tp.ke).keeps (fun _ _=>trivial) (fun _ _ _ _ _=>trivial) (by rfl) (by rfl) (by rfl) (fun _ _=>recFacts_nil rfl) (by rfl) said (by decide +kernel) ⟨rfl,rfl,rfl,rfl,rfl,by decide +kernel⟩ ?hw ?hc
  case hw=>w_witness2
  k_fill
  refine L2.zj0 (l:=PySem.Challenge.rw_trueword_k72_houses_and_best_said) (n:=63) (k:=52) (x := "script") (CX:=L2.CX0) (sp:=Mine.zfy) rfl (by decide) rfl ⟨rfl,by decide,by decide⟩ (fun w h Y=>PySem.W.kIn_of Y) ?F ?S ?C
  case F =>
    intro w mg fa h KX G hmg
    have N:mg "ValueError" = none/\mg "abs" = none/\mg "all" = none/\mg "bool" = none/\mg "dict" = none/\mg "int" = none/\mg "isinstance" = none/\mg "len" = none/\mg "list" = none/\mg "max" = none/\mg "range" = none/\mg "set" = none/\mg "str" = none/\mg "tuple" = none/\mg "zip" = none/\True:=by
      refine⟨?_,?_,?_,?_,?_,?_,?_,?_,?_,?_,?_,?_,?_,?_,?_,trivial⟩ <;> (refine' PySem.W.mg_none_of KX G ?a;(case a=>k_is))
    obtain⟨n_ValueError,n_abs,n_all,n_bool,n_dict,n_int,n_isinstance,n_len,n_list,n_max,n_range,n_set,n_str,n_tuple,n_zip,-⟩:=N;have k0_MOST_WORDS:=PySem.W.mg_of (n := "MOST_WORDS") KX G (by k_is);have k_MOST_WORDS:∃t,mg "MOST_WORDS" = some (Value.int 8 t):=⟨_,k0_MOST_WORDS⟩;have k0_MOST_LETTERS:=PySem.W.mg_of (n := "MOST_LETTERS") KX G (by k_is);have k_MOST_LETTERS:∃t,mg "MOST_LETTERS" = some (Value.int 8 t):=⟨_,k0_MOST_LETTERS⟩;have k0_MOST_OUTCOMES:=PySem.W.mg_of (n := "MOST_OUTCOMES") KX G (by k_is);have k_MOST_OUTCOMES:∃t,mg "MOST_OUTCOMES" = some (Value.int 8 t):=⟨_,k0_MOST_OUTCOMES⟩;have k0_MOST_HANDS:=PySem.W.mg_of (n := "MOST_HANDS") KX G (by k_is);have k_MOST_HANDS:∃t,mg "MOST_HANDS" = some (Value.int 4 t):=⟨_,k0_MOST_HANDS⟩;have k0_MOST_ROWS:=PySem.W.mg_of (n := "MOST_ROWS") KX G (by k_is);have k_MOST_ROWS:∃t,mg "MOST_ROWS" = some (Value.int 256 t):=⟨_,k0_MOST_ROWS⟩;have k0_MOST_CLAUSES:=PySem.W.mg_of (n := "MOST_CLAUSES") KX G (by k_is);have k_MOST_CLAUSES:∃t,mg "MOST_CLAUSES" = some (Value.int 20 t):=⟨_,k0_MOST_CLAUSES⟩;have k0_MOST_CLAUSE_WORDS:=PySem.W.mg_of (n := "MOST_CLAUSE_WORDS") KX G (by k_is);have k_MOST_CLAUSE_WORDS:∃t,mg "MOST_CLAUSE_WORDS" = some (Value.int 40 t):=⟨_,k0_MOST_CLAUSE_WORDS⟩;have k0_MOST_FIGURES:=PySem.W.mg_of (n := "MOST_FIGURES") KX G (by k_is);have k_MOST_FIGURES:∃t,mg "MOST_FIGURES" = some (Value.int 60 t):=⟨_,k0_MOST_FIGURES⟩;have B:Mine.Bt mg:=⟨n_ValueError,n_abs,n_all,n_bool,n_dict,n_int,n_isinstance,n_len,n_list,n_max,n_range,n_set,n_str,n_tuple,n_zip,k_MOST_WORDS,k_MOST_LETTERS,k_MOST_OUTCOMES,k_MOST_HANDS,k_MOST_ROWS,k_MOST_CLAUSES,k_MOST_CLAUSE_WORDS,k_MOST_FIGURES⟩;have z_NoHouse:=L2.mt (name := "NoHouse") KX G (by k_is) (by k_exc) (by k_is) (by k_is) (by k_is);have z_NoWeight:=L2.mt (name := "NoWeight") KX G (by k_is) (by k_exc) (by k_is) (by k_is) (by k_is);have z_NoRule:=L2.mt (name := "NoRule") KX G (by k_is) (by k_exc) (by k_is) (by k_is) (by k_is);have z_NoWord:=L2.mt (name := "NoWord") KX G (by k_is) (by k_exc) (by k_is) (by k_is) (by k_is);have z_NoRow:=L2.mt (name := "NoRow") KX G (by k_is) (by k_exc) (by k_is) (by k_is) (by k_is);have z_TrueError:=L2.mt (name := "TrueError") KX G (by k_is) (by k_exc) (by k_is) (by k_is) (by k_is);have z_Desk:=PySem.W.mg_of (n := "Desk") KX G (by k_is);have z_NoStand:=L2.mt (name := "NoStand") KX G (by k_is) (by k_exc) (by k_is) (by k_is) (by k_is);have z_NoShare:=PySem.W.mg_of (n := "NoShare") KX G (by k_is);have z_NoPays:=PySem.W.mg_of (n := "NoPays") KX G (by k_is);have z_NoMenu:=PySem.W.mg_of (n := "NoMenu") KX G (by k_is);have C:=Mine.Ct.mk (mg:=mg) (a:=⟨_,_,_,_,_,_,_,_,_,_,_⟩) (z_NoHouse.1) (z_NoHouse.2) (z_NoWeight.1) (z_NoWeight.2) (z_NoRule.1) (z_NoRule.2) (z_NoWord.1) (z_NoWord.2) (z_NoRow.1) (z_NoRow.2) (L2.zes (by k_is)) (z_TrueError.1) (z_TrueError.2) (z_Desk) (z_NoStand.1) (z_NoStand.2) (L2.zes (by k_is)) (z_NoShare) (z_NoPays) (z_NoMenu) (L2.x8 (by decide) (by k_is) (by k_is) (by k_is)) (L2.x8 (by decide) (by k_is) (by k_is) (by k_is)) (L2.x8 (by decide) (by k_is) (by k_is) (by k_is)) (L2.x8 (by decide) (by k_is) (by k_is) (by k_is)) (by k_is) (L2.zdm) (by k_is) (L2.x8 (by decide) (by k_is) (by k_is) (by k_is)) (L2.x8 (by decide) (by k_is) (by k_is) (by k_is)) (L2.x8 (by decide) (by k_is) (by k_is) (by k_is)) (L2.x8 (by decide) (by k_is) (by k_is) (by k_is)) (L2.x8 (by decide) (by k_is) (by k_is) (by k_is)) (L2.x8 (by decide) (by k_is) (by k_is) (by k_is)) (L2.x8 (by decide) (by k_is) (by k_is) (by k_is)) (L2.x8 (by decide) (by k_is) (by k_is) (by k_is)) (L2.x8 (by decide) (by k_is) (by k_is) (by k_is)) (L2.x8 (by decide) (by k_is) (by k_is) (by k_is)) (by k_is) (L2.x8 (by decide) (by k_is) (by k_is) (by k_is)) (by k_is) (L2.zdm) (L2.x8 (by decide) (by k_is) (by k_is) (by k_is)) (L2.x8 (by decide) (by k_is) (by k_is) (by k_is)) (L2.x8 (by decide) (by k_is) (by k_is) (by k_is))
    have D:L2.zc (L2.KOf KX) mg "is_whole" Mine.mf ["thing"]/\L2.zc (L2.KOf KX) mg "is_bounded" Mine.qc ["thing"]/\L2.zc (L2.KOf KX) mg "is_grid_row" Mine.tw ["thing", "width"]/\L2.zc (L2.KOf KX) mg "is_name" Mine.l6 ["thing"]/\L2.zc (L2.KOf KX) mg "are_names" Mine.q8 ["thing", "most"]/\L2.zc (L2.KOf KX) mg "are_worths" Mine.r6 ["thing", "height", "width"]/\L2.zc (L2.KOf KX) mg "is_hand" Mine.kh ["thing", "width"]/\L2.zc (L2.KOf KX) mg "name_of" Mine.ka ["hand"]/\L2.zc (L2.KOf KX) mg "names_of" Mine.ni ["hands"]/\L2.zc (L2.KOf KX) mg "words_of_hand" Mine.w6 ["hand"]/\L2.zc (L2.KOf KX) mg "worths_of_hand" Mine.wv ["hand"]/\L2.zc (L2.KOf KX) mg "worths_by" Mine.px ["hand", "word"]/\L2.zc (L2.KOf KX) mg "count_of_rows" Mine.v5 ["hands"]/\L2.zc (L2.KOf KX) mg "makes_house" Mine.tu ["outcomes", "hands"]/\L2.zc (L2.KOf KX) mg "kept_hand" Mine.p0 ["hand"]/\L2.zc (L2.KOf KX) mg "house_of" Mine.nu ["outcomes", "hands"]/\L2.zc (L2.KOf KX) mg "outcomes_of" Mine.sf ["house"]/\L2.zc (L2.KOf KX) mg "hands_of" Mine.n0 ["house"]/\L2.zc (L2.KOf KX) mg "with_each" Mine.p6 ["rows", "words"]/\L2.zc (L2.KOf KX) mg "rows_over" Mine.ph ["hands"]/\L2.zc (L2.KOf KX) mg "rows_of" Mine.kn ["house"]/\L2.zc (L2.KOf KX) mg "are_weights" Mine.tq ["house", "thing"]/\L2.zc (L2.KOf KX) mg "are_handicaps" Mine.v7 ["house", "thing"]/\L2.zc (L2.KOf KX) mg "refuse_weights" Mine.vo ["house", "weights", "handicaps"]/\L2.zc (L2.KOf KX) mg "part_of" Mine.ki ["hand", "weight", "word"]/\L2.zc (L2.KOf KX) mg "parts_of" Mine.ny ["house", "weights", "row"]/\L2.zc (L2.KOf KX) mg "scores" Mine.ic ["house", "weights", "handicaps", "row"]/\L2.zc (L2.KOf KX) mg "best_place" Mine.rq ["totals"]/\L2.zc (L2.KOf KX) mg "best_outcome" Mine.uo ["house", "weights", "handicaps", "row"]/\L2.zc (L2.KOf KX) mg "best_table" Mine.qj ["house", "weights", "handicaps"]/\L2.zc (L2.KOf KX) mg "holds" Mine.jb ["condition", "row"]/\L2.zc (L2.KOf KX) mg "dealt" Mine.fh ["rule", "row"]/\L2.zc (L2.KOf KX) mg "table_of" Mine.na ["house", "rule"]/\L2.zc (L2.KOf KX) mg "read_deal" Mine.oa ["house", "words"]/\L2.zc (L2.KOf KX) mg "read_clause" Mine.tz ["house", "words"]/\L2.zc (L2.KOf KX) mg "clauses_in" Mine.rc ["text"]/\L2.zc (L2.KOf KX) mg "read_rule" Mine.pj ["house", "text"]/\L2.zc (L2.KOf KX) mg "are_figures" Mine.tj ["text"]/\L2.zc (L2.KOf KX) mg "number_of" Mine.pz ["text"]/\L2.zc (L2.KOf KX) mg "numbers_of" Mine.rf ["words"]/\L2.zc (L2.KOf KX) mg "hand_from" Mine.p7 ["text"]/\L2.zc (L2.KOf KX) mg "read_house" Mine.qd ["text"]/\L2.zc (L2.KOf KX) mg "read_weights" Mine.uj ["text"]/\L2.zc (L2.KOf KX) mg "rule_table" Mine.rn ["house", "rest"]/\L2.zc (L2.KOf KX) mg "weighted_table" Mine.vm ["house", "rest"]/\L2.zc (L2.KOf KX) mg "row_from" Mine.nq ["table", "rest"]/\L2.zc (L2.KOf KX) mg "deal_told" Mine.p9 ["house", "table", "rest"]/\L2.zc (L2.KOf KX) mg "refuse_row" Mine.qg ["row"]/\L2.zc (L2.KOf KX) mg "_law_cell" Mine.me ["script", "k"]/\L2.zc (L2.KOf KX) mg "_law_number" Mine.rg ["cell", "top"]/\L2.zc (L2.KOf KX) mg "_law_names" Mine.zr ["cell", "many"]/\L2.zc (L2.KOf KX) mg "_law_hands" Mine.pp ["script", "places", "top"]/\L2.zc (L2.KOf KX) mg "_law_rows" Mine.ma ["hands"]/\L2.zc (L2.KOf KX) mg "_law_worths" Mine.qf ["hand", "word"]/\L2.zc (L2.KOf KX) mg "_law_weights" Mine.sd ["script", "many"]/\L2.zc (L2.KOf KX) mg "_law_handicaps" Mine.v8 ["script", "places"]/\L2.zc (L2.KOf KX) mg "_law_scores" Mine.rb ["hands", "weights", "handicaps", "row"]/\L2.zc (L2.KOf KX) mg "_law_house_row" Mine.v6 ["outcomes", "hands"]/\L2.zc (L2.KOf KX) mg "_law_best_row" Mine.ur ["weights", "handicaps"]/\L2.zc (L2.KOf KX) mg "_law_no_stand" Mine.uh ["desk", "row"]/\L2.zc (L2.KOf KX) mg "_law_no_row" Mine.qr ["desk", "row"]/\L2.zc (L2.KOf KX) mg "_law_none" Mine.nn ["desk", "hands"]/\L2.zc (L2.KOf KX) mg "_law_dealt" Mine.pc ["desk", "hands", "outcomes", "weights", "handicaps"]/\L2.zc (L2.KOf KX) mg "_law_weighed" Mine.tm ["desk", "hands", "outcomes", "weights", "handicaps"]/\L2.zc (L2.KOf KX) mg "law" Mine.g9 ["script"]/\True:=by
      refine⟨?_,?_,?_,?_,?_,?_,?_,?_,?_,?_,?_,?_,?_,?_,?_,?_,?_,?_,?_,?_,?_,?_,?_,?_,?_,?_,?_,?_,?_,?_,?_,?_,?_,?_,?_,?_,?_,?_,?_,?_,?_,?_,?_,?_,?_,?_,?_,?_,?_,?_,?_,?_,?_,?_,?_,?_,?_,?_,?_,?_,?_,?_,?_,?_,?_,trivial⟩ <;> (dsimp only[L2.KOf];refine' L2.def_mk KX G ?a ?l ?c ?k ?h;(case a=>k_is);(case l=>k_is);(case c=>k_is);(case k=>k_is);(case h=>first | exact(fun _ _ _ _ _ _ us hl=>match us,hl with | [_],_=>rfl) | exact(fun _ _ _ _ _ _ us hl=>match us,hl with | [_,_],_=>rfl) | exact(fun _ _ _ _ _ _ us hl=>match us,hl with | [_,_,_],_=>rfl) | exact(fun _ _ _ _ _ _ us hl=>match us,hl with | [_,_,_,_],_=>rfl) | exact(fun _ _ _ _ _ _ us hl=>match us,hl with | [_,_,_,_,_],_=>rfl)))
    obtain⟨d_is_whole,d_is_bounded,d_is_grid_row,d_is_name,d_are_names,d_are_worths,d_is_hand,d_name_of,d_names_of,d_words_of_hand,d_worths_of_hand,d_worths_by,d_count_of_rows,d_makes_house,d_kept_hand,d_house_of,d_outcomes_of,d_hands_of,d_with_each,d_rows_over,d_rows_of,d_are_weights,d_are_handicaps,d_refuse_weights,d_part_of,d_parts_of,d_scores,d_best_place,d_best_outcome,d_best_table,d_holds,d_dealt,d_table_of,d_read_deal,d_read_clause,d_clauses_in,d_read_rule,d_are_figures,d_number_of,d_numbers_of,d_hand_from,d_read_house,d_read_weights,d_rule_table,d_weighted_table,d_row_from,d_deal_told,d_refuse_row,d_law_cell,d_law_number,d_law_names,d_law_hands,d_law_rows,d_law_worths,d_law_weights,d_law_handicaps,d_law_scores,d_law_house_row,d_law_best_row,d_law_no_stand,d_law_no_row,d_law_none,d_law_dealt,d_law_weighed,d_law,-⟩:=D
    have c_Desk:=L2.own_mk (name := "Desk") (C:=691) (qual := "Desk.__init__") (st:=Mine.yn) (ps:=["self"]) (fs:=["house", "table"]) KX G (by k_is) (by k_is) (by k_is) (by k_is) (by k_is) (by k_is) (by k_is) (by k_is) (fun _ _ _ _ _ _ us hl=>match us,hl with | [_],_=>rfl) (by k_is) (by k_is) (by k_is) (by k_is) (fun f hf=>by
      simp only[ZK,Zx,or_false]at hf
      rcases hf with rfl | rfl <;> k_is)
    have m_Desk_say:=L2.mt_mk KX (C:=691) (m := "say") (qual := "Desk.say") (st:=Mine.nk) (ps:=["self", "row"]) (by k_is) (by k_is) (by k_is) (by k_is) (by k_is) (fun _ _ _ _ _ _ us hl=>match us,hl with | [_,_],_=>rfl);have y_rule_table:=PySem.W.mg_of (n := "rule_table") KX G (by k_is);have y_weighted_table:=PySem.W.mg_of (n := "weighted_table") KX G (by k_is);have g_MAKERS:=L2.zg9 (P:=PySem.Challenge.pw_trueword_k72_houses_and_best_said) (w:=w) (name := "MAKERS") (ks:=[("rule", _,_),("best", _,_)]) (ns:=[("rule", "rule_table"),("best", "weighted_table")]) KX G (by k_is) (by k_is) (by rfl) (by decide) rfl (by decide) (by simp only[ZM,Yi,y_rule_table,y_weighted_table]);have y_deal_told:=PySem.W.mg_of (n := "deal_told") KX G (by k_is);have y_pays_told:=PySem.W.mg_of (n := "pays_told") KX G (by k_is);have y_verdict_told:=PySem.W.mg_of (n := "verdict_told") KX G (by k_is);have y_menu_told:=PySem.W.mg_of (n := "menu_told") KX G (by k_is);have g_ANSWERS:=L2.zg9 (P:=PySem.Challenge.pw_trueword_k72_houses_and_best_said) (w:=w) (name := "ANSWERS") (ks:=[("deal", _,_),("pays", _,_),("verdict", _,_),("menu", _,_)]) (ns:=[("deal", "deal_told"),("pays", "pays_told"),("verdict", "verdict_told"),("menu", "menu_told")]) KX G (by k_is) (by k_is) (by rfl) (by decide) rfl (by decide) (by simp only[ZM,Yi,y_deal_told,y_pays_told,y_verdict_told,y_menu_told]);obtain⟨f,fd,e1,F1,b1⟩:=d_law.ex;have e2:=hmg.symm.trans e1;cases e2;refine⟨fd,fun s u => ?_,fun base kb nb => ?_⟩
    . exact Mine.zh9 F1 s u
    . exact Mine.law_ok B C d_is_whole d_is_bounded d_is_grid_row d_is_name d_are_names d_are_worths d_is_hand d_name_of d_names_of d_words_of_hand d_worths_of_hand d_worths_by d_count_of_rows d_makes_house d_kept_hand d_house_of d_outcomes_of d_hands_of d_with_each d_rows_over d_rows_of d_are_weights d_are_handicaps d_refuse_weights d_part_of d_parts_of d_scores d_best_place d_best_outcome d_best_table d_holds d_dealt d_table_of d_read_deal d_read_clause d_clauses_in d_read_rule d_are_figures d_number_of d_numbers_of d_hand_from d_read_house d_read_weights d_rule_table d_weighted_table d_row_from d_deal_told d_refuse_row d_law_cell d_law_number d_law_names d_law_hands d_law_rows d_law_worths d_law_weights d_law_handicaps d_law_scores d_law_house_row d_law_best_row d_law_no_stand d_law_no_row d_law_none d_law_dealt d_law_weighed c_Desk m_Desk_say g_MAKERS g_ANSWERS base F1
  case S=>exact fun K H a ns hl hO hS=>⟨a,ns,rfl,hS,hl,fun _=>rfl⟩
  case C=>exact fun _ _ _ _ z=>z
#print axioms PySem.Challenge.cw_trueword_k72_houses_and_best_said_holds

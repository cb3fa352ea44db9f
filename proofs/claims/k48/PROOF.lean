import PyProof.Rows.All
import Wide.All
import OpenK.AllK
import Wide.FinOn
import Lean
import PyProof.EqAt
import PyProof.EqKinds
import PyProof.TupleCall
import PySem.Challenge.RW_trueword_k48_whole_menus_are_payable
abbrev Fg:=PySem.W.Frag
abbrev Za:=@List.length_map
abbrev Zb:=@List.getElem?_eq_getElem
abbrev Zc:=@List.getElem?_eq_some_iff
abbrev Zd:=@Nat.le_trans
abbrev Ze:=@List.getElem?_map
abbrev Zf:=@List.getElem?_append_right
abbrev Zg:=@List.getElem?_append_left
abbrev Zh:=@Nat.lt_of_lt_of_le
abbrev Zi:=@List.mem_of_getElem?
abbrev Zj:=@List.length_take
abbrev Zk:=@List.getD_eq_getElem?_getD
abbrev Zl:=@List.getElem_mem
abbrev Zm:=@Nat.le_refl
abbrev Zn:=@List.map_append
abbrev Zo:=@List.length_append
abbrev Zp:=@List.mem_map
abbrev Zq:=@List.take_add_one
abbrev Zr:=@List.size_toArray
abbrev Zs:=@Nat.ne_of_lt
abbrev Zt:=@List.take_length
abbrev Zu:=@List.mem_append_right
abbrev Zv:=@List.mem_cons_of_mem
abbrev Zw:=@Int.toNat_natCast
abbrev Zx:=@List.not_mem_nil
abbrev Zy:=@List.getElem_of_mem
abbrev Zz:=@List.idxOf_lt_length_iff
abbrev ZA:=@List.mem_cons_self
abbrev ZB:=@Nat.min_le_right
abbrev ZC:=@List.mem_singleton
abbrev ZD:=@Nat.not_lt
abbrev ZE:=@Nat.zero_le
abbrev ZF:=@List.lookup_cons
abbrev ZG:=@List.take_of_length_le
abbrev ZH:=@List.mem_append
abbrev ZI:=@List.length_replicate
abbrev ZJ:=@Nat.lt_irrefl
abbrev ZK:=@List.mem_cons
abbrev ZL:=@List.length_eraseIdx_of_lt
abbrev ZM:=@List.map_cons
abbrev ZN:=@List.length_cons
abbrev ZO:=@List.mem_of_mem_eraseIdx
abbrev ZP:=@List.length_drop
abbrev ZQ:=@List.nodup_cons
abbrev ZR:=@List.eraseIdx_eq_take_drop_succ
abbrev ZS:=@List.getElem?_eraseIdx
abbrev ZT:=@List.all_eq_true
abbrev ZU:=@Int.emod_lt_of_pos
abbrev ZV:=@List.mem_range
abbrev ZW:=@List.mem_append_left
abbrev ZX:=@List.length_nil
abbrev ZY:=@List.mem_filterMap
abbrev ZZ:=@List.pairwise_iff_getElem
abbrev Yb:=@List.getElem?_take_of_lt
abbrev Yc:=@Int.emod_nonneg
abbrev Yd:=@Array.length_toList
abbrev Ye:=@Nat.ne_of_gt
abbrev Yg:=@List.append_nil
abbrev Yh:=@List.nodup_append
abbrev Yi:=@List.length_range
abbrev Yj:=@Nat.lt_succ_self
abbrev Yk:=@List.cons_append
abbrev Yl:=@Int.toNat_of_nonneg
abbrev Ym:=@List.length_eq_zero_iff
abbrev Yn:=@List.find?_cons
abbrev Yo:=@List.nil_append
abbrev Yp:=@Nat.lt_succ_of_lt
abbrev Yq:=@List.nodup_nil
abbrev Yr:=@List.getElem?_eq_none
abbrev Ys:=@List.getElem?_of_mem
abbrev Yt:=@Nat.le_succ
abbrev Yu:=@Int.le_refl
abbrev Yv:=@List.filterMap_cons
abbrev Yw:=@List.map_congr_left
abbrev Yx:=@Option.map_some
abbrev Yy:=@Nat.not_lt_zero
abbrev Yz:=@List.range_succ
abbrev YA:=@Int.natCast_add
abbrev YB:=@List.getElem?_drop
abbrev YC:=@Nat.lt_of_le_of_lt
abbrev YD:=@List.getElem?_replicate
abbrev YE:=@List.getElem?_cons_succ
abbrev YF:=@List.reverse_cons
abbrev YG:=@List.pairwise_map
abbrev YH:=@List.getElem?_set_self
abbrev YI:=@Option.map_eq_some_iff
abbrev YJ:=@List.any_cons
abbrev YK:=@List.getElem_inj
abbrev YL:=@Option.getD_some
abbrev YM:=@List.mem_flatten
abbrev YN:=@List.length_singleton
abbrev YO:=@List.dropLast_eq_take
abbrev YQ:=@Nat.le_of_lt
abbrev YR:=@List.getElem?_set_ne
abbrev YS:=@Nat.min_eq_left
abbrev YT:=@List.replicate_succ'
abbrev YU:=@List.replicate_succ
abbrev YV:=@Nat.mul_le_mul
abbrev YW:=@List.filterMap_map
abbrev YX:=@List.map_take
abbrev YY:=@List.map_nil
abbrev YZ:=@List.any_eq_true
abbrev Xa:=@Nat.succ_le_succ
abbrev Xb:=@Int.natCast_emod
abbrev Xc:=@List.map_map
abbrev Xd:=@List.of_mem_zip
abbrev Xe:=@List.foldl_cons
abbrev Xf:=@Int.natCast_mul
abbrev Xg:=@List.length_set
-- CHANGE: your row's module here,as the last of these rows
set_option Elab.async false
set_option maxHeartbeats 8000000
set_option linter.all false
set_option maxRecDepth 100000
namespace L2
open PySem PySem.Spec PyProof.Rows
abbrev Key:=Sum Int Str
def jk:Key->Value->Bool
  | .inl k,v=>Value.isInt k v
  | .inr x,v=>Value.isStrOf x v
def keyH(w:World):Key->Int
  | .inl k=>hashInt k
  | .inr x=>hashStr w x
theorem xh:∀{k:Key} {v:Value},jk k v=true->(∃i t,k=Sum.inl i/\v=Value.int i t)\/(∃x t,k=Sum.inr x/\v=Value.str x t)
  | .inl i,v,h=>by
    obtain⟨t,e⟩:=Value.isInt_shape (k:=i) (v:=v) h;exact .inl ⟨i,t,rfl,e⟩
  | .inr x,v,h=>by
    obtain⟨t,e⟩:=Value.isStrOf_shape (x:=x) (v:=v) h;exact .inr ⟨x,t,rfl,e⟩
theorem zgi(i:Int)(t:Tok):jk (.inl i) (.int i t)=true:=by simp[jk,Value.isInt]
theorem zfi(x:Str)(t:Tok):jk (.inr x) (.str x t)=true:=by simp[jk,Value.isStrOf]
theorem key_ll(a b:Int):decide ((Sum.inl a:Key)=Sum.inl b)=(a==b):=by
  by_cases e:a=b
  . subst e;simp
  . have h:¬(Sum.inl a:Key)=Sum.inl b:=fun q=>e (Sum.inl.inj q)
    rw[decide_eq_false h];exact(beq_eq_false_iff_ne.mpr e).symm
theorem key_rr(a b:Str):decide ((Sum.inr a:Key)=Sum.inr b)=decide (a=b):=by
  by_cases e:a=b
  . subst e;simp
  . have h:¬(Sum.inr a:Key)=Sum.inr b:=fun q=>e (Sum.inr.inj q)
    rw[decide_eq_false h,decide_eq_false e]
theorem key_lr(a:Int)(b:Str):decide ((Sum.inl a:Key)=Sum.inr b)=false:=decide_eq_false (fun q=>nomatch q)
theorem key_rl(a:Str)(b:Int):decide ((Sum.inr a:Key)=Sum.inl b)=false:=decide_eq_false (fun q=>nomatch q)
def yw(prog:Program)(w:World):PySem.KeyKind prog w Key where
  is:=jk
  hash:=keyH w
  inj:=fun v a b ha hb=>by
    rcases xh ha with ⟨i,t,rfl,rfl⟩ | ⟨x,t,rfl,rfl⟩
    . rcases xh hb with ⟨j,u,rfl,e⟩ | ⟨y,u,rfl,e⟩
      . injection e with e1 _;rw[e1]
      . exact nomatch e
    . rcases xh hb with ⟨j,u,rfl,e⟩ | ⟨y,u,rfl,e⟩
      . exact nomatch e
      . injection e with e1 _;rw[e1]
  byValue:=fun k v h=>by
    rcases xh h with ⟨i,t,rfl,rfl⟩ | ⟨x,t,rfl,rfl⟩ <;> rfl
  pyHash:=fun hv h=>by
    rcases xh hv with ⟨i,t,rfl,rfl⟩ | ⟨x,t,rfl,rfl⟩
    . exact wpAny_pyHash_int h
    . exact wpAny_pyHash_str h
  eqBool:=fun hu hv h=>by
    rcases xh hu with ⟨i,t,rfl,rfl⟩ | ⟨x,t,rfl,rfl⟩
    . rcases xh hv with ⟨j,u,rfl,rfl⟩ | ⟨y,u,rfl,rfl⟩
      . rw[key_ll]at h;exact wpAny_eqBool_int h
      . rw[key_lr]at h;exact SeqAt.EqAt.int_str i t y u _ _ _ _ h
    . rcases xh hv with ⟨j,u,rfl,rfl⟩ | ⟨y,u,rfl,rfl⟩
      . rw[key_rl]at h;exact SeqAt.EqAt.str_int x t j u _ _ _ _ h
      . rw[key_rr]at h;exact wpAny_eqBool_str h
  «strs» := fun k x t v h=>by
    rcases xh h with ⟨i,u,rfl,e⟩ | ⟨y,u,rfl,e⟩
    . exact nomatch e
    . injection e with e1 _
      subst e1;cases v <;> rfl
theorem zed(prog:Program)(w:World)(k:Key)(v:Value):(yw prog w).is k v=jk k v:=rfl
theorem zck(prog:Program)(w:World)(i:Int)(t:Tok):(yw prog w).is (.inl i) (.int i t)=true:=zgi i t
theorem zcd(prog:Program)(w:World)(x:Str)(t:Tok):(yw prog w).is (.inr x) (.str x t)=true:=zfi x t
end L2
namespace L2
open PySem PySem.Spec PyProof.Rows
inductive V where
  | non | bl (b:Bool) | int (i:Int) | str (x:Str) | byt (b:Array UInt8) | flt (b:UInt64) | ref (a:Addr) | ty (n:String)
  deriving DecidableEq
def RelV:V->Value->Prop
  | .non,u=>u=Value.none
  | .bl b,u=>u=Value.bool b
  | .int i,u=>∃t,u=Value.int i t
  | .str x,u=>∃t,u=Value.str x t
  | .byt b,u=>∃t,u=Value.bytes b t
  | .flt b,u=>∃t,u=Value.float b t
  | .ref a,u=>u=Value.ref a
  | .ty n,u=>u=Value.type n
abbrev Vals:List V->List Value->Prop:=Paired RelV
theorem Vals.length{xs:List V}{us:List Value}(r:Vals xs us):xs.length=us.length:=Paired.length r
theorem Vals.get:∀{xs:List V} {us:List Value} {i:Nat} {x:V},Vals xs us->xs[i]? = some x->∃u,us[i]? = some u/\RelV x u
  | _,_,_,_,.nil,e=>by simp at e
  | _,_,0,_,.cons r _,e=>by simp at e;subst e;exact⟨_,rfl,r⟩
  | _,_,i+1,x,.cons _ t,e=>by
    obtain⟨u,h1,h2⟩:=Vals.get (i:=i) (x:=x) t (by simpa using e);exact⟨u,by simpa using h1,h2⟩
theorem Vals.set{x:V}{u:Value}(r:RelV x u):∀{xs:List V} {us:List Value} (i:Nat),Vals xs us->Vals (xs.set i x) (us.set i u)
  | _,_,_,.nil=>.nil
  | _,_,0,.cons _ t=>.cons r t
  | _,_,i+1,.cons q t=>.cons q (Vals.set r i t)
theorem Vals.append:∀{xs ys:List V} {us ws:List Value},Vals xs us->Vals ys ws->Vals (xs++ys) (us++ws)
  | _,_,_,_,.nil,s=>s
  | _,_,_,_,.cons r t,s=>.cons r (Vals.append t s)
theorem Vals.take:∀{xs:List V} {us:List Value} (n:Nat),Vals xs us->Vals (xs.take n) (us.take n)
  | _,_,0,_=>.nil
  | _,_,_+1,.nil=>.nil
  | _,_,n+1,.cons r t=>.cons r (Vals.take n t)
theorem Vals.drop:∀{xs:List V} {us:List Value} (n:Nat),Vals xs us->Vals (xs.drop n) (us.drop n)
  | _,_,0,r=>r
  | _,_,_+1,.nil=>.nil
  | _,_,n+1,.cons _ t=>Vals.drop n t
def RelO:Option V->Option Value->Prop
  | some v,some u=>RelV v u
  | none,none=>True
  | _,_=>False
def KV{κ:Type}:List (κ×V)->List (κ×Value)->Prop:=Paired fun(p:κ×V) (q:κ×Value)=>p.1=q.1/\RelV p.2 q.2
def kV:Key->V
  | .inl i=>.int i
  | .inr x=>.str x
inductive HO where
    | lst (xs:List V)
    | tup (xs:List V)
    | dK (kvs:List (Key×V)) | dT (kvs:List (List Key×V))
    | set (S:Int->Bool) (n:Nat)
    | ins (C dx:Addr) (fs:List (Str×V))
    | own (x:Addr)
    | xd (fs:List (Str×V))
    | met (f x:Addr)
    | rng (lo hi:Int)
    | frz (o:Obj) (u:HO)
    | tbl (ps:Array Value)
    | ext (φ:Heap->Prop)
abbrev Hp:=Addr->Option HO
def upd(H:Hp)(a:Addr)(o:HO):Hp:=fun b=>if b=a then some o else H b
theorem zc{H:Hp}{a:Addr}{o:HO}:upd H a o a=some o:=by unfold upd;rw[if_pos rfl]
theorem zp{H:Hp}{a b:Addr}{o:HO}(h:b≠a):upd H a o b=H b:=by unfold upd;rw[if_neg h]
theorem ne_of{H:Hp}{a b:Addr}{o u:HO}(h:H a=some o)(h':H b=some u)(d:o≠u):a≠b:=by
  intro e;subst e;rw[h]at h';exact d (Option.some.inj h')
theorem y3{H:Hp}{a b:Addr}{o:HO}(h:H a=some o)(h':H b=none):a≠b:=by
  intro e;subst e;rw[h]at h';cases h'
def IsTupD(h:Heap)(a:Addr)(items:Array Value):Prop:=∃o,h.get? a=some o/\o.cls=.type "tuple" /\ ∃n,o.data=.seq items n/\o.dict=none
theorem IsTupD.tup{h:Heap}{a:Addr}{items:Array Value}(q:IsTupD h a items):IsTup h a items:=by
  obtain⟨o,e,c,n,d,_⟩:=q;exact⟨o,e,c,n,d⟩
theorem IsTupD.new(h:Heap)(items:Array Value):IsTupD (h.push { cls:=.type "tuple", data:=.seq items }) h.objs.size items:=⟨_,Heap.get?_push_size _ rfl,rfl,_,rfl,rfl⟩
section
variable(P:Program)(w:World)
def ObjOk(H:Hp)(h:Heap)(a:Addr):HO->Prop
  | .lst xs=>xs.length<=sizeLine/\∃(its:List Value) (n:Nat),Vals xs its/\h.get? a=some { cls:=.type "list", data:=.seq its.toArray n }
  | .tup xs=>xs.length<=sizeLine/\∃its:List Value,Vals xs its/\IsTupD h a its.toArray
  | .dK kvs=>kvs.length<=sizeLine/\(a==sysModules)=false/\∃vs,KV kvs vs/\h.DictOf (yw P w) a vs
  | .dT kvs=>kvs.length<=sizeLine/\(a==sysModules)=false/\∃xs:List (List Key×Addr×Value),
      Paired (fun(p:List Key×V) (q:List Key×Addr×Value)=>p.1=q.1/\H q.2.1=some (.tup (p.1.map kV))/\RelV p.2 q.2.2) kvs xs /\
      ∃o es ep,h.get? a=some o/\o.ExactDict/\o.data=.dict es ep/\es.toList=xs.map (entryOfKey (tupleKind (yw P w)))/\(xs.map (·.1)).Nodup
  | .set S n=>h.SetOf (intKind P w) a S n
  | .ins C dx fs=>H dx=some (.own a)/\fs.length<=1000/\dx≠a/\h.get? a=some (PySem.W.instObj C dx) /\
      ∃mA,h.Ns1 dx mA/\(∀f,RelO (fs.lookup f) (mA f))/\PySem.Within mA (fs.map (·.1))
  | .own _=>∃o,h.get? a=some o
  | .xd fs=>∃mA,h.Ns1 a mA/\∀f,RelO (fs.lookup f) (mA f)
  | .rng lo hi=>∃t u v,h.get? a=some { cls:=.type "range", data:=.fields #[.int lo t,.int hi u,.int 1 v] }
  | .frz o u=>h.get? a=some o/\ObjOk H h a u
  | .tbl ps=>h.get? a=some { cls:=.none,data:=.fields ps }
  | .met f x=>h.get? a=some (PySem.W.methodObj (.ref f) (.ref x))
  | .ext φ=>φ h/\(∃o,h.get? a=some o)/\∀h1 h2:Heap,φ h1->(∀o,h1.get? a=some o->h2.get? a=some o)->φ h2
def HOk(H:Hp)(h:Heap):Prop:=∀a o,H a=some o->ObjOk P w H h a o
end
section
variable{P:Program}{w:World}{H H':Hp}{h h':Heap}{a:Addr}{o:HO}
theorem ObjOk.lt(x:ObjOk P w H h a o):a<h.objs.size:=by
  cases o with
  | lst xs=>obtain⟨_,_,_,_,e⟩:=x;exact Heap.lt_size e
  | tup xs=>obtain⟨_,_,_,p⟩:=x;exact p.tup.lt
  | dK kvs=>obtain⟨_,_,_,_,o,_,_,e,_⟩:=x;exact Heap.lt_size e
  | dT kvs=>obtain⟨_,_,_,_,o,_,_,e,_⟩:=x;exact Heap.lt_size e
  | set S n=>obtain⟨o,_,_,_,e,_⟩:=x;exact Heap.lt_size e
  | ins C dx fs=>obtain⟨_,_,_,e,_⟩:=x;exact Heap.lt_size e
  | own y=>obtain⟨_,e⟩:=x;exact Heap.lt_size e
  | xd fs=>obtain⟨_,⟨_,_,_,e,_⟩,_⟩:=x;exact Heap.lt_size e
  | rng lo hi=>obtain⟨_,_,_,e⟩:=x;exact Heap.lt_size e
  | frz ob u=>obtain⟨e,_⟩:=x;exact Heap.lt_size e
  | tbl ps=>exact Heap.lt_size (show h.get? a=some _ from x)
  | met f y=>exact Heap.lt_size (show h.get? a=some _ from x)
  | ext φ=>obtain⟨_,⟨_,e⟩,_⟩:=x;exact Heap.lt_size e
theorem Paired.mapP{α β:Type}{F G:α->β->Prop}:∀{l₁:List α} {l₂:List β},Paired F l₁ l₂->(∀a b,F a b->G a b)->Paired G l₁ l₂
  | _,_,.nil,_=>.nil
  | _,_,.cons r t,f=>.cons (f _ _ r) (Paired.mapP t f)
theorem ObjOk.stay(x:ObjOk P w H h a o)(k:∀b u,(b=a\/H b=some (.own a))->h.get? b=some u->h'.get? b=some u)
    (ho:∀b,H b=some (.own a)->H' b=some (.own a)) (ht:∀b xs,H b=some (.tup xs)->H' b=some (.tup xs)):ObjOk P w H' h' a o:=by
  induction o with
  | lst xs=>obtain⟨z,its,n,r,e⟩:=x;exact⟨z,its,n,r,k _ _ (.inl rfl) e⟩
  | tup xs=>obtain⟨z,its,r,ob,e,c⟩:=x;exact⟨z,its,r,ob,k _ _ (.inl rfl) e,c⟩
  | dK kvs=>obtain⟨z,y,vs,r,ob,es,ep,e,c⟩:=x;exact⟨z,y,vs,r,ob,es,ep,k _ _ (.inl rfl) e,c⟩
  | dT kvs =>
    obtain⟨z,y,xs,r,ob,es,ep,e,c⟩:=x;exact⟨z,y,xs,Paired.mapP r fun p q z=>⟨z.1,ht _ _ z.2.1,z.2.2⟩,ob,es,ep,k _ _ (.inl rfl) e,c⟩
  | set S n=>obtain⟨ob,es,ep,t,e,c⟩:=x;exact⟨ob,es,ep,t,k _ _ (.inl rfl) e,c⟩
  | ins C dx fs =>
    obtain⟨d,z,ne,e,mA,⟨od,es,ep,e2,c⟩,r⟩:=x;exact⟨ho _ d,z,ne,k _ _ (.inl rfl) e,mA,⟨od,es,ep,k _ _ (.inr d) e2,c⟩,r⟩
  | own y=>obtain⟨ob,e⟩:=x;exact⟨ob,k _ _ (.inl rfl) e⟩
  | xd fs=>obtain⟨mA,⟨od,es,ep,e,c⟩,r⟩:=x;exact⟨mA,⟨od,es,ep,k _ _ (.inl rfl) e,c⟩,r⟩
  | rng lo hi=>obtain⟨t,u,v,e⟩:=x;exact⟨t,u,v,k _ _ (.inl rfl) e⟩
  | frz ob u ih=>obtain⟨e,q⟩:=x;exact⟨k _ _ (.inl rfl) e,ih q⟩
  | tbl ps =>
    have e:h.get? a=some { cls:=.none,data:=.fields ps }:=x
    show h'.get? a=some { cls:=.none,data:=.fields ps }
    exact k a _ (.inl rfl) e
  | met f y =>
    have e:h.get? a=some (PySem.W.methodObj (.ref f) (.ref y)):=x
    show h'.get? a=some (PySem.W.methodObj (.ref f) (.ref y))
    exact k a _ (.inl rfl) e
  | ext φ=>obtain⟨p,⟨o,e⟩,st⟩:=x;exact⟨st _ _ p fun o q=>k _ _ (.inl rfl) q,⟨o,k _ _ (.inl rfl) e⟩,st⟩
theorem HOk.lt(x:HOk P w H h)(e:H a=some o):a<h.objs.size:=(x a o e).lt
theorem HOk.fresh(x:HOk P w H h)(e:h.objs.size<=a):H a=none:=by
  cases q:H a with
  | none=>rfl
  | some u=>exact absurd (Zh (x.lt q) e) (ZJ _)
theorem HOk.kept(x:HOk P w H h)(k:∀b u,h.get? b=some u->h'.get? b=some u):HOk P w H h':=fun a o e =>
  (x a o e).stay (fun b u _ q=>k b u q) (fun _ q=>q) fun _ _ q=>q
theorem HOk.laid(x:HOk P w H h)(k:∀b u,h.get? b=some u->h'.get? b=some u)(hp:h.objs.size<=a)(new:ObjOk P w (upd H a o) h' a o):HOk P w (upd H a o) h':=fun b u e=>by
  have hn:=x.fresh hp
  by_cases hb:b=a
  . subst hb;rw[zc]at e;cases e;exact new
  . rw[zp hb]at e
    exact(x b u e).stay (fun c v _ q=>k c v q) (fun c q=>by rw[zp (y3 q hn)];exact q) fun c xs q=>by rw[zp (y3 q hn)];exact q
end
def Rd(H:Hp)(a:Addr)(u:HO):Prop:=H a=some u\/∃o,H a=some (.frz o u)
theorem Rd.of{H:Hp}{a:Addr}{u:HO}(h:H a=some u):Rd H a u:=.inl h
theorem Rd.ok{P:Program}{w:World}{H:Hp}{h:Heap}{a:Addr}{u:HO}(r:Rd H a u)(x:HOk P w H h):ObjOk P w H h a u:=by
  rcases r with r | ⟨o,r⟩
  . exact x a u r
  . obtain⟨_,q⟩:=x a _ r
    exact q
def Mut:Option HO->Prop
  | some (.lst _)=>True
  | some (.dK _)=>True
  | some (.dT _)=>True
  | some (.set _ _)=>True
  | some (.ins _ _ _)=>True
  | some (.ext _)=>True
  | _=>False
section
variable{P:Program}{w:World}{H:Hp}{h h':Heap}{x e:Addr}{o':HO}
theorem HOk.write(ok:HOk P w H h)(mu:Mut (H x))(he:e=x\/H e=some (.own x))(k:∀b u,b≠e->h.get? b=some u->h'.get? b=some u)(heo:∃u,h'.get? e=some u)
    (new:ObjOk P w (upd H x o') h' x o'):HOk P w (upd H x o') h':=fun b u q=>by
  have nown:∀c y,H c=some (.own y)->c≠x:=fun c y r z=>by subst z;rw[r]at mu;exact mu
  have ntup:∀c xs,H c=some (.tup xs)->c≠x:=fun c xs r z=>by subst z;rw[r]at mu;exact mu
  by_cases hb:b=x
  . subst hb;rw[zc]at q;cases q;exact new
  . rw[zp hb]at q
    by_cases hbe:b=e
    . have q':H b=some (.own x):=by
        rcases he with z | z
        . exact absurd (hbe.trans z) hb
        . rw[hbe];exact z
      rw[q]at q';cases q';obtain⟨v,hv⟩:=heo;exact⟨v,by rw[hbe];exact hv⟩
    . refine(ok b u q).stay (fun c v hc r=>k c v ?_ r) (fun c r=>by rw[zp (nown c b r)];exact r) fun c xs r=>by rw[zp (ntup c xs r)];exact r
      rcases hc with rfl | hc
      . exact hbe
      . rintro rfl
        rcases he with z | z
        . exact nown c b hc z
        . rw[hc]at z;cases z;exact hb rfl
end
structure Un(fs ex:List Addr)(H H':Hp)(h h':Heap):Prop where
  keep:∀b o,h.get? b=some o->H b=none->b∉fs->b∉ex->h'.get? b=some o
  slot:∀b o,h.get? b=some o->H b=none->b∈fs->b∉ex->∃sl,h'.get? b=some { o with slots:=sl }
  free:∀b o,h.get? b=some o->H b=none->b∉ex->H' b=none
  there:∀b o,h.get? b=some o->b∉ex->∃o',h'.get? b=some o'
  tups:∀b xs,H b=some (.tup xs)->H' b=some (.tup xs)
  frzs:∀b o u,H b=some (.frz o u)->H' b=some (.frz o u)
  tbls:∀b ps,H b=some (.tbl ps)->∃more,H' b=some (.tbl (ps++more))
section
variable{fs fs' ex ex':List Addr}{H H1 H2:Hp}{h h1 h2 h':Heap}{a x e:Addr}{o:HO}
theorem Un.any(u:Un fs ex H H1 h h1){b:Addr}{ob:Obj}(q:h.get? b=some ob)(n:H b=none)(hx:b∉ex):∃sl,h1.get? b=some { ob with slots:=sl }:=by
  by_cases hb:b∈fs
  . exact u.slot b ob q n hb hx
  . exact⟨ob.slots,u.keep b ob q n hb hx⟩
theorem Un.trans(a:Un fs ex H H1 h h1)(b:Un fs ex H1 H2 h1 h2):Un fs ex H H2 h h2 where
  keep:=fun c ob q n hc hx=>b.keep c ob (a.keep c ob q n hc hx) (a.free c ob q n hx) hc hx
  slot:=fun c ob q n hc hx=>by
    obtain⟨sl,e1⟩:=a.slot c ob q n hc hx;obtain⟨sl',e2⟩:=b.slot c _ e1 (a.free c ob q n hx) hc hx;exact⟨sl',e2⟩
  free:=fun c ob q n hx=>by
    obtain⟨o',e1⟩:=a.there c ob q hx;exact b.free c o' e1 (a.free c ob q n hx) hx
  there:=fun c ob q hx=>by
    obtain⟨o',e1⟩:=a.there c ob q hx;exact b.there c o' e1 hx
  tups:=fun c xs q=>b.tups c xs (a.tups c xs q)
  frzs:=fun c ob xs q=>b.frzs c ob xs (a.frzs c ob xs q)
  tbls:=fun c ps q=>by
    obtain⟨m1,e1⟩:=a.tbls c ps q;obtain⟨m2,e2⟩:=b.tbls c _ e1;exact⟨m1++m2,by rw[e2,Array.append_assoc]⟩
theorem Un.kept(k:∀b u,h.get? b=some u->h'.get? b=some u):Un fs ex H H h h' :=
  ⟨fun b ob q _ _ _=>k b ob q,fun b ob q _ _ _=>⟨ob.slots,k b ob q⟩,fun _ _ _ n _=>n,fun b ob q _=>⟨ob,k b ob q⟩,fun _ _ q=>q,fun _ _ _ q=>q,fun _ ps q=>⟨#[],by rw[q];simp⟩⟩
theorem Un.refl:Un fs ex H H h h:=Un.kept fun _ _ q=>q
theorem Un.laid(k:∀b u,h.get? b=some u->h'.get? b=some u)(hp:h.objs.size<=a)(hn:H a=none):Un fs ex H (upd H a o) h h' where
  keep:=fun b u q _ _ _=>k b u q
  slot:=fun b u q _ _ _=>⟨u.slots,k b u q⟩
  free:=fun b u q n _=>by rw[zp (Zs (Zh (Heap.lt_size q) hp))];exact n
  there:=fun b u q _=>⟨u,k b u q⟩
  tups:=fun b xs q=>by rw[zp (y3 q hn)];exact q
  frzs:=fun b u xs q=>by rw[zp (y3 q hn)];exact q
  tbls:=fun b ps q=>⟨#[],by rw[zp (y3 q hn),q];simp⟩
theorem Un.write(mu:Mut (H x))(he:e=x\/H e=some (.own x))(k:∀b u,b≠e->h.get? b=some u->h'.get? b=some u)(heo:∃u,h'.get? e=some u):Un fs ex H (upd H x o) h h':=by
  have hx:∀b,H b=none->b≠x:=fun b n z=>by subst z;rw[n]at mu;exact mu
  have hb:∀b,H b=none->b≠e:=fun b n z=>by
    subst z
    rcases he with r | r
    . exact hx b n r
    . rw[n]at r;cases r
  have hm:∀b u,H b=some u->¬Mut (some u)->b≠x:=fun b u q nm z=>by subst z;rw[q]at mu;exact nm mu
  refine⟨fun b u q n _ _=>k b u (hb b n) q,fun b u q n _ _=>⟨u.slots,k b u (hb b n) q⟩,fun b u q n _=>by rw[zp (hx b n)];exact n,fun b u q _ => ?_,
    fun b xs q=>by rw[zp (hm b _ q fun z=>z)];exact q,fun b u xs q=>by rw[zp (hm b _ q fun z=>z)];exact q,fun b ps q=>⟨#[],by rw[zp (hm b _ q fun z=>z),q];simp⟩⟩
  by_cases hbe:b=e
  . subst hbe;exact heo
  . exact⟨u,k b u hbe q⟩
theorem Un.mono(u:Un fs ex H H1 h h1)(hs:∀b∈fs,b∈fs')(hx:∀b∈ex,b∈ex'):Un fs' ex' H H1 h h1 :=
  ⟨fun b ob q n hb he=>u.keep b ob q n (fun z=>hb (hs b z)) fun z=>he (hx b z),fun _ _ q n _ he=>u.any q n fun z=>he (hx _ z),fun b ob q n he=>u.free b ob q n fun z=>he (hx b z),fun b ob q he=>u.there b ob q fun z=>he (hx b z),u.tups,u.frzs,u.tbls⟩
end
def trk(h:Heap)(H:Hp):List Addr:=(List.range h.objs.size).filter fun a=>(H a).isSome
def hidT(h:Heap)(H:Hp):Heap:=PySem.W.hideAll h (trk h H)
theorem zfv(h:Heap)(H:Hp):(hidT h H).objs.size=h.objs.size:=PySem.W.hideAll_size _ _
theorem zie{h:Heap}{H:Hp}{b:Addr}{o:Obj}(e:h.get? b=some o)(n:H b=none):(hidT h H).get? b=some o :=
  PySem.W.hideAll_get _ e fun hm=>by
    have q:(H b).isSome=true:=(List.mem_filter.mp hm).2;rw[n]at q;simp at q
theorem zjl{h:Heap}{H:Hp}{b:Addr}{o:Obj}(e:(hidT h H).get? b=some o):h.get? b=some o/\H b=none:=by
  have e':h.get? b=some o:=PySem.W.of_hideAll (trk h H) e;refine⟨e',?_⟩
  cases q:H b with
  | none=>rfl
  | some x =>
    have hm:b∈trk h H:=List.mem_filter.mpr ⟨ZV.mpr (Heap.lt_size e'),by simp[q]⟩;have z:(hidT h H).get? b=none:=PySem.W.hideAll_none (trk h H) hm;rw[z]at e;cases e
def zje(g h:Heap)(L:Addr):List (Addr×Obj):=(List.range h.objs.size).filterMap fun a=>if a=L\/(g.get? a).isSome=true then none else(h.get? a).map fun o=>(a,o)
def rest(g h:Heap)(L d:Addr):List (Addr×Obj):=(zje g h L).filter fun p=>decide (p.1≠d)
end L2
namespace L2
open PySem PySem.Spec PyProof.Rows
structure Mod(K:Fg)(mg:Str->Option Value)(base:Heap):Prop where
  kin:K.In base
  glob:base.Ns mainGlobals mg
  blt:∃mb,base.Ns builtinsNs mb/\∀x:Str,x ≠ "__name__" -> mb x=bootBuiltins x
  nolimit:base.NoLimit
structure Cx where
  prog:Program
  w:World
  K:Fg
  mg:Str->Option Value
  base:Heap
  A:Around
  N:List Str
  s₀:Shared
  H₀:Hp
  env:Env
  outer:List Env
  stack:List Env
  ex:List Addr
  fn:Str->Bool
  calm:Bool
  pn:List (Addr×Obj)
  xe:Value->Shared->Prop
def frs(l:List Env):List Addr:=l.filterMap (·.frame)
abbrev Cx.fs(X:Cx):List Addr:=frs X.outer
def Vis(sc:Scope)(x:Str):Prop:=sc.names.lookup x=some .local\/sc.names.lookup x=some .cell\/sc.names.lookup x=some .free
def Loc(sc:Scope)(x:Str):Prop:=sc.names.lookup x=some .local\/sc.names.lookup x=some .cell
def Look(env:Env)(h:Heap)(m:Str->Option Value)(x:Str)(u:Value):Prop :=
  (env.kindOf x=some .local/\m x=some u)\/((env.kindOf x=some .cell\/env.kindOf x=some .free)/\∃c,env.cells.lookup x=some c/\h.IsCell c (some u))
structure Cx.Ok(X:Cx):Prop where
  mod:Mod X.K X.mg X.base
  kind:X.env.scope.kind=.function
  glob:X.env.globals=mainGlobals
  blt:X.env.builtins=builtinsNs
  above:X.s₀.heap.objs.size<=X.env.locals
  inj:∀x y c,X.env.cells.lookup x=some c->X.env.cells.lookup y=some c->x=y
  has:∀x,(X.env.kindOf x=some .cell\/X.env.kindOf x=some .free)->∃c,X.env.cells.lookup x=some c
  cab:∀x c,X.fn x=true->X.env.cells.lookup x=some c->X.s₀.heap.objs.size<=c
  hd:X.calm=true->X.A.handled=none
  frames:X.A.frames=some X.stack
  stk:X.stack=X.outer\/(X.stack=X.env::X.outer/\X.env.frame=some X.env.locals)
  exf:∀b∈X.ex,b≠X.env.locals/\∀x c,X.env.cells.lookup x=some c->c≠b
  bs:∀b o,X.base.get? b=some o->X.s₀.heap.get? b=some o/\X.H₀ b=none
  bsz:X.base.objs.size<=X.s₀.heap.objs.size
  noex:∀b o,X.base.get? b=some o->b∉X.ex
  exfs:∀b∈X.ex,b∉X.fs
  funs:X.s₀.heap.FunFrames X.base X.outer
  frf:∀b∈X.fs,X.H₀ b=none
structure Inv(X:Cx)(pins:List (Addr×Obj))(σ:List (Option V))(H:Hp)(s:Shared):Prop where
  ok:X.Ok
  os:s.os=X.s₀.os
  bare:AllBare s.gens
  base:Un X.fs X.ex X.H₀ H X.s₀.heap s.heap
  loc:∃m,s.heap.Ns X.env.locals m/\∀(i:Nat) (x:Str) (v:V),X.N[i]? = some x->σ[i]? = some (some v)->Vis X.env.scope x->∃u,RelV v u/\Look X.env s.heap m x u
  cell:∀x c,X.env.cells.lookup x=some c->∃v,s.heap.IsCell c v
  free:H X.env.locals=none
  freeC:∀x c,X.env.cells.lookup x=some c->H c=none
  pin:∀p∈X.pn++pins,s.heap.get? p.1=some p.2/\H p.1=none/\p.1≠X.env.locals/\p.1∉X.fs/\∀v,p.2.data≠.cell v
  hok:HOk X.prog X.w H s.heap
  len:σ.length=X.N.length
section
variable{X:Cx}{pins:List (Addr×Obj)}{σ:List (Option V)}{H H':Hp}{s:Shared}{h':Heap}
theorem Cx.Ok.nofr(ok:X.Ok){b:Addr}{o:Obj}(e:X.base.get? b=some o):b∉X.fs:=fun hb=>by
  have:=(ok.funs.mem hb).1;rw[e]at this;cases this
theorem Inv.bs(I:Inv X pins σ H s):∀b o,X.base.get? b=some o->s.heap.get? b=some o/\H b=none:=fun b o e =>
  ⟨I.base.keep b o (I.ok.bs b o e).1 (I.ok.bs b o e).2 (I.ok.nofr e) (I.ok.noex b o e),I.base.free b o (I.ok.bs b o e).1 (I.ok.bs b o e).2 (I.ok.noex b o e)⟩
theorem Inv.bk(I:Inv X pins σ H s):∀b o,X.base.get? b=some o->s.heap.get? b=some o:=fun b o e=>(I.bs b o e).1
theorem Inv.mod(I:Inv X pins σ H s):Mod X.K X.mg X.base:=I.ok.mod
theorem Inv.kIn(I:Inv X pins σ H s):X.K.In s.heap:=I.ok.mod.kin.keeps I.bk
theorem Inv.nolimit(I:Inv X pins σ H s):s.heap.NoLimit:=I.ok.mod.nolimit.keeps I.bk
theorem Inv.lt(I:Inv X pins σ H s):X.env.locals<s.heap.objs.size:=let ⟨_,hn,_⟩:=I.loc;hn.lt
theorem Inv.sz(I:Inv X pins σ H s):X.s₀.heap.objs.size<=s.heap.objs.size:=Zd I.ok.above (YQ I.lt)
theorem Inv.nofs(I:Inv X pins σ H s){a:Addr}(h:s.heap.objs.size<=a):a∉X.fs:=fun hb=>by
  obtain⟨_,o,ho,_⟩:=I.ok.funs.mem hb;exact absurd (Zh (Heap.lt_size ho) (Zd I.sz h)) (ZJ _)
theorem Inv.cne(I:Inv X pins σ H s):∀x c,X.env.cells.lookup x=some c->c≠X.env.locals:=fun x c e z=>by
  obtain⟨v,o,ho,hd⟩:=I.cell x c e;obtain⟨m,⟨o',es,ep,ho',hd',_⟩,_⟩:=I.loc;rw[z,ho']at ho;cases ho;rw[hd']at hd;cases hd
theorem Inv.funs(I:Inv X pins σ H s):s.heap.FunFrames X.base X.outer:=by
  have all:∀(l:List Env),(∀b∈frs l,b∈X.fs)->X.s₀.heap.FunFrames X.base l->s.heap.FunFrames X.base l:=by
    intro l
    induction l with
    | nil=>intro _ _;trivial
    | cons env r ih =>
      intro hs hl;obtain⟨hk,⟨L,o,hf,hn,ho,hd⟩,hr⟩:=hl;have hL:L∈X.fs:=hs L (by unfold frs;rw[Yv,hf];exact ZA);obtain⟨sl,e⟩:=I.base.slot L o ho (I.ok.frf L hL) hL fun z=>I.ok.exfs L z hL
      exact⟨hk,⟨L,_,hf,hn,e,hd⟩,ih (fun b hb=>hs b (by unfold frs;rw[Yv,hf];exact Zv _ hb)) hr⟩
  exact all X.outer (fun _ hb=>hb) I.ok.funs
theorem Inv.stack(I:Inv X pins σ H s):s.heap.FunFrames X.base X.stack:=by
  rcases I.ok.stk with e | ⟨e,hf⟩
  . rw[e];exact I.funs
  . rw[e]
    obtain⟨m,hn,_⟩:=I.loc;refine .cons (by rw[I.ok.kind];decide) hf hn ?_ I.funs;exact Heap.get?_none_of_le (Zd I.ok.bsz I.ok.above)
theorem Inv.stkSub(I:Inv X pins σ H s):∀b∈frs X.stack,b∈X.env.locals::X.fs:=fun b hb=>by
  rcases I.ok.stk with e | ⟨e,hf⟩
  . rw[e]at hb;exact Zv _ hb
  . rw[e]at hb
    unfold frs at hb;rw[Yv,hf]at hb;exact hb
theorem Inv.stkFree(I:Inv X pins σ H s):∀b∈frs X.stack,H b=none:=fun b hb=>by
  rcases ZK.mp (I.stkSub b hb) with e | hb
  . rw[e];exact I.free
  . obtain⟨_,o,ho,_⟩:=I.ok.funs.mem hb
    exact I.base.free b o ho (I.ok.frf b hb) fun z=>I.ok.exfs b z hb
theorem Inv.step{g':Array GenState}{t':Nat}{d':Drawn}{ch:List Addr}(I:Inv X pins σ H s)
    (hch:∀b∈ch,(b∈X.ex\/X.s₀.heap.objs.size<=b)/\b≠X.env.locals/\(∀x c,X.env.cells.lookup x=some c->c≠b)/\∀p∈X.pn++pins,p.1≠b)
    (keep:∀b o,b≠X.env.locals->b∉X.fs->b∉ch->s.heap.get? b=some o->H b=none->h'.get? b=some o)
    (slot:∀b o,b≠X.env.locals->b∈X.fs->b∉ch->s.heap.get? b=some o->H b=none->∃sl,h'.get? b=some { o with slots:=sl }) (free:∀b o,b∉ch->s.heap.get? b=some o->H b=none->H' b=none)
    (there:∀b o,b∉ch->s.heap.get? b=some o->∃o',h'.get? b=some o')
    (tups:∀b xs,H b=some (.tup xs)->H' b=some (.tup xs)) (frzs:∀b o u,H b=some (.frz o u)->H' b=some (.frz o u)) (tbls:∀b ps,H b=some (.tbl ps)->∃more,H' b=some (.tbl (ps++more)))
    (ns:∀m,s.heap.Ns X.env.locals m->h'.Ns X.env.locals m) (hok:HOk X.prog X.w H' h') (hg:AllBare g') :
    Inv X pins σ H' { s with heap:=h',gens:=g',drawn:=d',toks:=t' }:=by
  have neL:∀b o,X.s₀.heap.get? b=some o->b≠X.env.locals:=fun b o e=>Zs (Zh (Heap.lt_size e) I.ok.above)
  have neC:∀b o,X.s₀.heap.get? b=some o->b∉X.ex->b∉ch:=fun b o e hx hb=>by
    rcases (hch b hb).1 with z | z
    . exact hx z
    . exact absurd (Zh (Heap.lt_size e) z) (ZJ _)
  have cellK:∀x c,X.env.cells.lookup x=some c->∀v,s.heap.IsCell c v->h'.IsCell c v:=fun x c e v ⟨o,ho,hd⟩=>by
    have nch:c∉ch:=fun z=>(hch c z).2.2.1 x c e rfl
    by_cases hc:c∈X.fs
    . obtain⟨sl,q⟩:=slot c o (I.cne x c e) hc nch ho (I.freeC x c e)
      exact⟨_,q,hd⟩
    . exact⟨o,keep c o (I.cne x c e) hc nch ho (I.freeC x c e),hd⟩
  refine⟨I.ok,I.os,hg,⟨fun b o e n hb hx => ?_,fun b o e n hb hx => ?_,fun b o e n hx => ?_,fun b o e hx => ?_,fun b xs e=>tups b xs (I.base.tups b xs e),fun b o xs e=>frzs b o xs (I.base.frzs b o xs e),fun b ps e => ?_⟩,?_,fun x c e => ?_,?_,fun x c e => ?_,fun p hp => ?_,hok,I.len⟩
  . exact keep b o (neL b o e) hb (neC b o e hx) (I.base.keep b o e n hb hx) (I.base.free b o e n hx)
  . obtain⟨sl,e1⟩:=I.base.slot b o e n hb hx
    obtain⟨sl',e2⟩:=slot b _ (neL b o e) hb (neC b o e hx) e1 (I.base.free b o e n hx);exact⟨sl',e2⟩
  . obtain⟨o',e1⟩:=I.base.there b o e hx
    exact free b o' (neC b o e hx) e1 (I.base.free b o e n hx)
  . obtain⟨o',e1⟩:=I.base.there b o e hx
    exact there b o' (neC b o e hx) e1
  . obtain⟨m1,e1⟩:=I.base.tbls b ps e
    obtain⟨m2,e2⟩:=tbls b _ e1;exact⟨m1++m2,by rw[e2,Array.append_assoc]⟩
  . obtain⟨m,hn,hl⟩:=I.loc
    refine⟨m,ns m hn,fun i x v e1 e2 e3 => ?_⟩;obtain⟨u,r,l⟩:=hl i x v e1 e2 e3;refine⟨u,r,?_⟩
    rcases l with l | ⟨k,c,e,z⟩
    . exact .inl l
    . exact .inr ⟨k,c,e,cellK x c e _ z⟩
  . obtain⟨v,z⟩:=I.cell x c e
    exact⟨v,cellK x c e v z⟩
  . obtain⟨m,⟨o,_,_,ho,_⟩,_⟩:=I.loc
    exact free _ o (fun z=>(hch _ z).2.1 rfl) ho I.free
  . obtain⟨v,o,ho,hd⟩:=I.cell x c e
    exact free c o (fun z=>(hch c z).2.2.1 x c e rfl) ho (I.freeC x c e)
  . obtain⟨e,n,ne,nf,d⟩:=I.pin p hp
    have nch:p.1∉ch:=fun z=>(hch p.1 z).2.2.2 p hp rfl
    exact⟨keep p.1 p.2 ne nf nch e n,free p.1 p.2 nch e n,ne,nf,d⟩
theorem Inv.un{t':Nat}(I:Inv X pins σ H s)(u:Un X.fs [] H H' s.heap h')(hok:HOk X.prog X.w H' h'):Inv X pins σ H' { s with heap:=h',toks:=t' }:=by
  obtain⟨m,⟨o,es,ep,ho,r⟩,_⟩:=id I.loc;obtain⟨sl,hL⟩:=u.any ho I.free (by simp)
  exact I.step (g':=s.gens) (d':=s.drawn) (ch:=[]) (fun _ z=>nomatch z) (fun b o _ hb _ e n=>u.keep b o e n hb (by simp)) (fun b o _ hb _ e n=>u.slot b o e n hb (by simp)) (fun b o _ e n=>u.free b o e n (by simp)) (fun b o _ e=>u.there b o e (by simp)) u.tups u.frzs u.tbls (fun m' hm=>by
    obtain⟨o',es',ep',ho',r'⟩:=hm;rw[ho]at ho';cases ho'
    exact⟨_,es',ep',hL,r'⟩) hok I.bare
theorem Inv.call{g':Array GenState}{t':Nat}{d':Drawn}{ch:List Addr}(I:Inv X pins σ H s)(u:Un (frs X.stack) ch H H' s.heap h')(hok:HOk X.prog X.w H' h')(hg:AllBare g')
    (hch:∀b∈ch,(b∈X.ex\/X.s₀.heap.objs.size<=b)/\b≠X.env.locals/\(∀x c,X.env.cells.lookup x=some c->c≠b)/\∀p∈X.pn++pins,p.1≠b) :
    Inv X pins σ H' { s with heap:=h',gens:=g',drawn:=d',toks:=t' }:=by
  obtain⟨m,⟨o,es,ep,ho,r⟩,_⟩:=id I.loc;obtain⟨sl,hL⟩:=u.any ho I.free fun z=>(hch _ z).2.1 rfl
  exact I.step (ch:=ch) hch (fun b o hL hb hc e n=>u.keep b o e n (fun z=>(ZK.mp (I.stkSub b z)).elim hL hb) hc) (fun b o _ _ hc e n=>u.any e n hc) (fun b o hc e n=>u.free b o e n hc) (fun b o hc e=>u.there b o e hc) u.tups u.frzs u.tbls (fun m' hm=>by
    obtain⟨o',es',ep',ho',r'⟩:=hm;rw[ho]at ho';cases ho'
    exact⟨_,es',ep',hL,r'⟩) hok hg
theorem Inv.turned{t':Nat}{it:Addr}(I:Inv X pins σ H s)(k:∀b o,b≠it->s.heap.get? b=some o->h'.get? b=some o)(hn:H it=none)(hL:it≠X.env.locals)
    (h1:it∈X.ex\/X.s₀.heap.objs.size<=it) (h2:∀x c,X.env.cells.lookup x=some c->c≠it) (h3:∀p∈X.pn++pins,p.1≠it):Inv X pins σ H { s with heap:=h',toks:=t' }:=by
  have nit:∀b u,H b=some u->b≠it:=fun b u e z=>by rw[z,hn]at e;cases e
  refine I.step (g':=s.gens) (d':=s.drawn) (ch:=[it]) (fun b hb => ?_) (fun b o _ _ hc e _=>k b o (fun z=>hc (by simp[z])) e) (fun b o _ _ hc e _=>⟨o.slots,k b o (fun z=>hc (by simp[z])) e⟩) (fun _ _ _ _ n=>n)
    (fun b o hc e=>⟨o,k b o (fun z=>hc (by simp[z])) e⟩) (fun _ _ e=>e) (fun _ _ _ e=>e) (fun b ps e=>⟨#[],by rw[e];simp⟩) (fun m hm => ?_) (fun b u e => ?_) I.bare
  . have e:b=it:=by simpa using hb
    subst e;exact⟨h1,hL,h2,h3⟩
  . obtain⟨o,es,ep,ho,r⟩:=hm
    exact⟨o,es,ep,k _ o (Ne.symm hL) ho,r⟩
  . refine(I.hok b u e).stay (fun c v hc q=>k c v ?_ q) (fun _ q=>q) fun _ _ q=>q
    rcases hc with z | z
    . rw[z];exact nit b u e
    . exact nit c _ z
theorem Inv.tok(I:Inv X pins σ H s)(t:Nat):Inv X pins σ H { s with toks:=t }:=I.un (h':=s.heap) (t':=t) Un.refl I.hok
theorem Inv.kept{t':Nat}(I:Inv X pins σ H s)(k:∀b u,s.heap.get? b=some u->h'.get? b=some u):Inv X pins σ H { s with heap:=h',toks:=t' }:=I.un (Un.kept k) (I.hok.kept k)
theorem Inv.laid{a:Addr}{o:HO}{t':Nat}(I:Inv X pins σ H s)(k:∀b u,s.heap.get? b=some u->h'.get? b=some u)(hp:s.heap.objs.size<=a)(new:ObjOk X.prog X.w (upd H a o) h' a o) :
    Inv X pins σ (upd H a o) { s with heap:=h',toks:=t' }:=I.un (Un.laid k hp (I.hok.fresh hp)) (I.hok.laid k hp new)
theorem Inv.write{x e:Addr}{o:HO}{t':Nat}(I:Inv X pins σ H s)(mu:Mut (H x))(he:e=x\/H e=some (.own x))(k:∀b u,b≠e->s.heap.get? b=some u->h'.get? b=some u)(heo:∃u,h'.get? e=some u)
    (new:ObjOk X.prog X.w (upd H x o) h' x o):Inv X pins σ (upd H x o) { s with heap:=h',toks:=t' }:=I.un (Un.write mu he k heo) (I.hok.write mu he k heo new)
theorem Inv.weak{σ':List (Option V)}(I:Inv X pins σ H s)(hl:σ'.length=σ.length)(w:∀(i:Nat) v,σ'[i]? = some (some v)->σ[i]? = some (some v)):Inv X pins σ' H s :=
  ⟨I.ok,I.os,I.bare,I.base,let ⟨m,hn,hl'⟩:=I.loc;⟨m,hn,fun i x v e1 e2 e3=>hl' i x v e1 (w i v e2) e3⟩,I.cell,I.free,I.freeC,I.pin,I.hok,hl.trans I.len⟩
theorem Inv.pins_of{pins':List (Addr×Obj)}(I:Inv X pins σ H s)(h:∀p∈pins',s.heap.get? p.1=some p.2/\H p.1=none/\p.1≠X.env.locals/\p.1∉X.fs/\∀v,p.2.data≠.cell v):Inv X pins' σ H s :=
  ⟨I.ok,I.os,I.bare,I.base,I.loc,I.cell,I.free,I.freeC,fun p hp=>(ZH.mp hp).elim (fun z=>I.pin p (ZW _ z)) (h p),I.hok,I.len⟩
theorem za4{N:List Str}(hN:N.Nodup){i j:Nat}{x:Str}(a:N[i]? = some x)(b:N[j]? = some x):i=j:=by
  obtain⟨h1,e1⟩:=Zc.mp a;obtain⟨h2,e2⟩:=Zc.mp b;exact(YK hN).mp (e1.trans e2.symm)
theorem bv{M:Model}{A:Around}{E:Value->Shared->Prop}{i:Nat}{x:Str}{v:V}{u:Value}{Q:Unit->Shared->Prop}(I:Inv X pins σ H s)(hN:X.N.Nodup)(hi:X.N[i]? = some x)(hx:Loc X.env.scope x)(r:RelV v u)
    (h:∀s',Inv X pins (σ.set i (some v)) H s'->(∃a,Heap.SameBut a s.heap s'.heap/\(a=X.env.locals\/X.env.cells.lookup x=some a))->Q () s') (hf:X.fn x=true\/X.env.scope.names.lookup x=some .local:=by first | exact .inl rfl | exact .inr rfl | assumption):wpAny M A (storeName X.env x u) Q E s:=by
  obtain⟨m,hn,hl⟩:=id I.loc;have hcls:(X.env.scope.kind==.class||(X.env.scope.kind==.module&&X.env.locals != X.env.globals))=false:=by rw[I.ok.kind];rfl
  have hiσ:i<σ.length:=by rw[I.len];exact(Zc.mp hi).1
  have cne:=I.cne
  have tracked:∀{a:Addr} {h':Heap},(∃o,s.heap.get? a=some o/\H a=none)->Heap.SameBut a s.heap h'->HOk X.prog X.w H h':=fun {a h'} ha hs b ob e=>by
    obtain⟨_,_,hfree⟩:=ha;refine(I.hok b ob e).stay (fun c w' hc q=>(hs.2 c ?_).trans q) (fun _ q=>q) fun _ _ q=>q
    rintro rfl
    rcases hc with rfl | hc
    . rw[hfree]at e;cases e
    . rw[hfree]at hc;cases hc
  rcases hx with hk | hk
  . refine wpAny_storeName_local hk hn (fun h' hn' hs => ?_) hcls
    obtain⟨oL,_,_,hoL,_⟩:=id hn;refine h _ ⟨I.ok,I.os,I.bare,⟨fun b o e n hb hx => ?_,fun b o e n hb hx => ?_,I.base.free,fun b o e hx => ?_,I.base.tups,I.base.frzs,I.base.tbls⟩,⟨_,hn',fun j y v' e1 e2 e3 => ?_⟩,fun y c e => ?_,I.free,I.freeC,fun p hp => ?_,tracked ⟨oL,hoL,I.free⟩ hs,by simpa using I.len⟩ ⟨_,hs,.inl rfl⟩
    . exact(hs.2 b (Zs (Zh (Heap.lt_size e) I.ok.above))).trans (I.base.keep b o e n hb hx)
    . obtain⟨sl,e1⟩:=I.base.slot b o e n hb hx
      exact⟨sl,(hs.2 b (Zs (Zh (Heap.lt_size e) I.ok.above))).trans e1⟩
    . obtain⟨o',e1⟩:=I.base.there b o e hx
      exact⟨o',(hs.2 b (Zs (Zh (Heap.lt_size e) I.ok.above))).trans e1⟩
    . by_cases hj:j=i
      . subst hj
        rw[hi]at e1;cases e1;rw[YH hiσ]at e2;cases e2;exact⟨u,r,.inl ⟨hk,by simp⟩⟩
      . rw[YR (Ne.symm hj)]at e2
        obtain⟨u',r',q⟩:=hl j y v' e1 e2 e3;refine⟨u',r',?_⟩
        rcases q with ⟨k,e⟩ | ⟨k,c,e,z⟩
        . refine .inl ⟨k,?_⟩
          have:y≠x:=fun e=>hj (za4 hN e1 (e▸hi))
          simp[this,e]
        . exact .inr ⟨k,c,e,z.sameBut hs (cne y c e)⟩
    . obtain⟨w',z⟩:=I.cell y c e
      exact⟨w',z.sameBut hs (cne y c e)⟩
    . obtain⟨e,n,ne,nf,d⟩:=I.pin p hp
      exact⟨(hs.2 p.1 ne).trans e,n,ne,nf,d⟩
  . have hfn:X.fn x=true:=by
      rcases hf with z | z
      . exact z
      . rw[z]at hk;cases hk
    obtain⟨c,hc⟩:=I.ok.has x (.inl hk);obtain⟨w',z⟩:=I.cell x c hc;refine wpAny_storeName_cell I.ok.kind hk hc z (fun h' hc' hs => ?_);obtain⟨oc,hoc,hocd⟩:=id z;refine h { s with heap:=h' } ⟨I.ok,I.os,I.bare,⟨fun b o e n hb hx => ?_,fun b o e n hb hx => ?_,I.base.free,fun b o e hx => ?_,I.base.tups,I.base.frzs,I.base.tbls⟩,⟨m,hn.sameBut hs (Ne.symm (cne x c hc)),fun j y v' e1 e2 e3 => ?_⟩,fun y c' e => ?_,I.free,I.freeC,fun p hp => ?_,tracked ⟨oc,hoc,I.freeC x c hc⟩ hs,by simpa using I.len⟩ ⟨c,hs,.inr hc⟩
    . exact(hs.2 b (Zs (Zh (Heap.lt_size e) (I.ok.cab x c hfn hc)))).trans (I.base.keep b o e n hb hx)
    . obtain⟨sl,e1⟩:=I.base.slot b o e n hb hx
      exact⟨sl,(hs.2 b (Zs (Zh (Heap.lt_size e) (I.ok.cab x c hfn hc)))).trans e1⟩
    . obtain⟨o',e1⟩:=I.base.there b o e hx
      exact⟨o',(hs.2 b (Zs (Zh (Heap.lt_size e) (I.ok.cab x c hfn hc)))).trans e1⟩
    . by_cases hj:j=i
      . subst hj
        rw[hi]at e1;cases e1;rw[YH hiσ]at e2;cases e2;exact⟨u,r,.inr ⟨.inl hk,c,hc,hc'⟩⟩
      . rw[YR (Ne.symm hj)]at e2
        obtain⟨u',r',q⟩:=hl j y v' e1 e2 e3;refine⟨u',r',?_⟩
        rcases q with q | ⟨k,c',e,z'⟩
        . exact .inl q
        . refine .inr ⟨k,c',e,z'.sameBut hs ?_⟩
          rintro rfl
          exact hj (za4 hN e1 (I.ok.inj _ _ _ e hc▸hi))
    . by_cases hcc:c'=c
      . subst hcc;exact⟨_,hc'⟩
      . obtain⟨w2,z2⟩:=I.cell y c' e
        exact⟨w2,z2.sameBut hs hcc⟩
    . obtain⟨e,n,ne,nf,d⟩:=I.pin p hp
      refine⟨(hs.2 p.1 ?_).trans e,n,ne,nf,d⟩;intro q;rw[q,hoc]at e;have q':oc=p.2:=Option.some.inj e;exact d w' (by rw[<-q'];exact hocd)
theorem zaj{M:Model}{A:Around}{E:Value->Shared->Prop}{i:Nat}{x:Str}{v:V}{u:Value}{Q:Unit->Shared->Prop}(I:Inv X pins σ H s)(hN:X.N.Nodup)(hi:X.N[i]? = some x)(hx:Loc X.env.scope x)(r:RelV v u)
    (h:∀s',Inv X pins (σ.set i (some v)) H s'->Q () s') (hf:X.fn x=true\/X.env.scope.names.lookup x=some .local:=by first | exact .inl rfl | exact .inr rfl | assumption):wpAny M A (storeName X.env x u) Q E s :=
  bv I hN hi hx r (fun s' I' _=>h s' I') hf
theorem Inv.call'{s':Shared}{ch:List Addr}(I:Inv X pins σ H s)(ho:s'.os=s.os)(u:Un (frs X.stack) ch H H' s.heap s'.heap)(hok:HOk X.prog X.w H' s'.heap)(hg:AllBare s'.gens)
    (hch:∀b∈ch,(b∈X.ex\/X.s₀.heap.objs.size<=b)/\b≠X.env.locals/\(∀x c,X.env.cells.lookup x=some c->c≠b)/\∀p∈X.pn++pins,p.1≠b):Inv X pins σ H' s':=by
  obtain⟨h',g',d',t',o'⟩:=s';have e:o'=s.os:=ho;subst e;exact I.call (g':=g') (t':=t') (d':=d') u hok hg hch
end
abbrev XK:=Value->Option Addr->Hp->Prop
abbrev St:=List (Option V)
abbrev VK:=V->Hp->Prop
abbrev TE:=St->Hp->VK->Prop
abbrev TT:=St->Hp->(Bool->Hp->Prop)->Prop
abbrev TA:=St->Hp->(List V->Hp->Prop)->Prop
structure Ends where
  nx:St->Hp->Prop
  rt:VK
  bk:St->Hp->Prop:=fun _ _=>False
  ct:St->Hp->Prop:=fun _ _=>False
abbrev TS:=Ends->St->Hp->Prop
def EP(X:Cx)(pins:List (Addr×Obj))(σ:St)(Q:VK)(u:Value)(s':Shared):Prop:=∃v H',Inv X pins σ H' s'/\RelV v u/\Q v H'
def TP(X:Cx)(pins:List (Addr×Obj))(σ:St)(Q:Bool->Hp->Prop)(b:Bool)(s':Shared):Prop:=∃H',Inv X pins σ H' s'/\Q b H'
def AP(X:Cx)(pins:List (Addr×Obj))(σ:St)(Q:List V->Hp->Prop)(us:List Value)(s':Shared):Prop:=∃vs H',Inv X pins σ H' s'/\Vals vs us/\Q vs H'
def SP(X:Cx)(pins:List (Addr×Obj))(D:Ends)(f:Flow)(s':Shared):Prop :=
  match f with
  | .next=>∃σ' H',Inv X pins σ' H' s'/\D.nx σ' H'
  | .brk=>∃σ' H',Inv X pins σ' H' s'/\D.bk σ' H'
  | .cont=>∃σ' H',Inv X pins σ' H' s'/\D.ct σ' H'
  | .ret u=>∃v σ' H',Inv X pins σ' H' s'/\RelV v u/\D.rt v H'
def PE(X:Cx)(e:Expr)(t:TE):Prop :=
  ∀(pins:List (Addr×Obj)) (s:Shared) (σ:St) (H:Hp) (Q:VK),Inv X pins σ H s->t σ H Q->wpAny (model X.prog X.w) X.A (eval e X.env) (EP X pins σ Q) X.xe s
def PT(X:Cx)(e:Expr)(t:TT):Prop :=
  ∀(pins:List (Addr×Obj)) (s:Shared) (σ:St) (H:Hp) (Q:Bool->Hp->Prop),Inv X pins σ H s->t σ H Q->wpAny (model X.prog X.w) X.A (isTrue e X.env (eval e X.env)) (TP X pins σ Q) X.xe s
def PW(X:Cx)(e:Expr)(t:TT):Prop :=
  ∀(whole:Sem Value) (pins:List (Addr×Obj)) (s:Shared) (σ:St) (H:Hp) (Q:Bool->Hp->Prop),Inv X pins σ H s->t σ H Q->wpAny (model X.prog X.w) X.A (isTrue e X.env whole) (TP X pins σ Q) X.xe s
theorem PW.pt{X:Cx}{e:Expr}{t:TT}(h:PW X e t):PT X e t:=h _
def PA(X:Cx)(es:List Expr)(t:TA):Prop :=
  ∀(pos:Pos) (pins:List (Addr×Obj)) (s:Shared) (σ:St) (H:Hp) (Q:List V->Hp->Prop),Inv X pins σ H s->t σ H Q->wpAny (model X.prog X.w) X.A (spliced (backTo pos (starEach es X.env))) (AP X pins σ Q) X.xe s
def PS(X:Cx)(st:Stmt)(t:TS):Prop :=
  ∀(pins:List (Addr×Obj)) (s:Shared) (σ:St) (H:Hp) (D:Ends),Inv X pins σ H s->t D σ H->wpAny (model X.prog X.w) X.A (exec st X.env) (SP X pins D) X.xe s
def PSs(X:Cx)(st:List Stmt)(t:TS):Prop :=
  ∀(pins:List (Addr×Obj)) (s:Shared) (σ:St) (H:Hp) (D:Ends),Inv X pins σ H s->t D σ H->wpAny (model X.prog X.w) X.A (execs st X.env) (SP X pins D) X.xe s
theorem thn{α:Type}{t:Sem α}{Q Q':α->Shared->Prop}{M:Model}{A:Around}{E:Value->Shared->Prop}{s:Shared}(h:wpAny M A t Q E s)(hQ:∀a s,Q a s->Q' a s):wpAny M A t Q' E s:=wpAny_mono h hQ fun _ _ x=>x
end L2
namespace L2
open PySem PySem.Spec PyProof.Rows
section
variable{X:Cx}
def tVar(i:Nat):TE:=fun σ H Q=>∃v,σ[i]? = some (some v)/\Q v H
def tC(v:V):TE:=fun _ H Q=>Q v H
theorem pe_var {i:Nat} {x:Str} {pos:Pos} (hN:X.N[i]? = some x) (hv:Vis X.env.scope x) (hd:(x==("__debug__" : Str))=false:=by decide) (hcd:(x==("__classdict__" : Str))=false:=by decide):PE X (.Name x pos) (tVar i):=by
  intro pins s σ H Q I h;obtain⟨v,e,h⟩:=h;obtain⟨m,hn,hl⟩:=I.loc;obtain⟨u,r,l⟩:=hl i x v hN e hv;have fin:EP X pins σ Q u s:=⟨v,H,I,r,h⟩
  rcases l with ⟨hk,hm⟩ | ⟨hk,c,hc,hcell⟩
  . exact wpAny_Name (wpAny_loadName_local I.ok.kind hk hn hm fin) hd
  . rcases hk with hk | hk
    . exact wpAny_Name (wpAny_loadName_cell I.ok.kind hk hc hcell fin) hd
    . exact wpAny_Name (wpAny_loadName_free I.ok.kind hk hc hcell fin hcd) hd
theorem zd{i j pos}:PE X (.Constant (.int i) j pos) (tC (.int i)):=fun _ _ _ H _ I h=>wpAny_Constant_int ⟨.int i,H,I.tok _,⟨_,rfl⟩,h⟩
theorem vv{b j pos}:PE X (.Constant (.bool b) j pos) (tC (.bl b)):=fun _ _ _ H _ I h=>Constant_bool ⟨.bl b,H,I,rfl,h⟩
theorem ph{j pos}:PE X (.Constant .none j pos) (tC .non):=fun _ _ _ H _ I h=>Constant_none ⟨.non,H,I,rfl,h⟩
theorem u0{x j pos}:PE X (.Constant (.str x) j pos) (tC (.str x)):=fun _ _ _ H _ I h=>Calls.Constant_str ⟨.str x,H,I.tok _,⟨_,rfl⟩,h⟩
def Gl(X:Cx)(x:Str):Prop:=X.env.kindOf x=some .globalImplicit
theorem ir{E:Value->Shared->Prop}{pins:List (Addr×Obj)}{s:Shared}{σ:St}{H:Hp}{x:Str}{u:Value}{pos:Pos}{Q:Value->Shared->Prop}(I:Inv X pins σ H s)(hg:Gl X x)(hm:X.mg x=some u)(h:Q u s)
    (hd:(x==("__debug__" : Str))=false:=by decide):wpAny (model X.prog X.w) X.A (eval (.Name x pos) X.env) Q E s :=
  Calls.Name_function_global I.ok.kind hg (Calls.loadGlobal_global (by rw[I.ok.glob];exact I.mod.glob.keeps I.bk) hm h) hd
theorem vi{E:Value->Shared->Prop}{pins:List (Addr×Obj)}{s:Shared}{σ:St}{H:Hp}{x:Str}{u:Value}{pos:Pos}{Q:Value->Shared->Prop}(I:Inv X pins σ H s)(hg:Gl X x)(hm:X.mg x=none)(hv:bootBuiltins x=some u)(h:Q u s)
    (hn:x ≠ "__name__" := by decide) (hd:(x==("__debug__" : Str))=false:=by decide):wpAny (model X.prog X.w) X.A (eval (.Name x pos) X.env) Q E s:=by
  obtain⟨mb,h1,h2⟩:=I.mod.blt;exact Calls.Name_function_global I.ok.kind hg (Calls.loadGlobal_builtin (by rw[I.ok.glob];exact I.mod.glob.keeps I.bk) hm (by rw[I.ok.blt];exact h1.keeps I.bk) ((h2 x hn).trans hv) h) hd
theorem cn {x:Str} {v:V} {u:Value} {pos:Pos} (hg:Gl X x) (hm:X.mg x=some u) (r:RelV v u) (hd:(x==("__debug__" : Str))=false:=by decide):PE X (.Name x pos) (tC v) :=
  fun _ _ _ H _ I h=>ir I hg hm ⟨v,H,I,r,h⟩ hd
theorem zju {x:Str} {v:V} {u:Value} {pos:Pos} (hg:Gl X x) (hm:X.mg x=none) (hv:bootBuiltins x=some u) (r:RelV v u) (hn:x ≠ "__name__" := by decide) (hd:(x==("__debug__" : Str))=false:=by decide):PE X (.Name x pos) (tC v) :=
  fun _ _ _ H _ I h=>vi I hg hm hv ⟨v,H,I,r,h⟩ hn hd
variable{a b:Expr}{ta tb:TE}{pos:Pos}
def tB(t:TE):TT:=fun σ H Q=>t σ H fun x H1=>∃c,x=.bl c/\Q c H1
theorem wm{e:Expr}{t:TE}(h:PE X e t)(he:∀whole,isTrue e X.env whole=(do let v <-whole;standAt e.pos;holding [v] (truthy v)):=by intro _;rfl):PT X e (tB t):=by
  intro pins s σ H Q I hw;refine isTrue_plain (thn (h pins s σ H _ I hw) fun v s1 ⟨x,H1,I1,r1,q1⟩ => ?_) (he _);obtain⟨d,rfl,q⟩:=q1;cases r1;exact wpAny_truthy_bool ⟨H1,I1,q⟩
variable{tA tB':TT}{rest:List Expr}
def tAnd(t u:TT):TT:=fun σ H Q=>t σ H fun c H1=>if c=true then u σ H1 Q else Q false H1
def tOr(t u:TT):TT:=fun σ H Q=>t σ H fun c H1=>if c=true then Q true H1 else u σ H1 Q
def tNot(t:TT):TT:=fun σ H Q=>t σ H fun c H1=>Q (!c) H1
theorem se(ha:PT X a tA):PW X (.BoolOp .Or [a] pos) tA:=by
  intro wh pins s σ H Q I h;refine isTrue_or (thn (ha pins s σ H Q I h) fun c s1 e => ?_)
  cases c with
  | false=>exact isTrue_or_nil e
  | true=>exact e
theorem oq(ha:PT X a tA)(hb:PW X (.BoolOp .Or (b::rest) pos) tB'):PW X (.BoolOp .Or (a::b::rest) pos) (tOr tA tB'):=by
  intro wh pins s σ H Q I h;refine isTrue_or (thn (ha pins s σ H _ I h) fun c s1 ⟨H1,I1,q1⟩ => ?_)
  cases c with
  | true=>exact⟨H1,I1,q1⟩
  | false=>exact hb wh pins s1 σ H1 Q I1 q1
theorem x6(ha:PT X a tA):PT X (.UnaryOp .Not a pos) (tNot tA):=by
  intro pins s σ H Q I h;exact isTrue_not (ha pins s σ H (fun c H1=>Q (!c) H1) I h)
def tAndV(ta tb:TE):TE:=fun σ H Q=>ta σ H fun x H1=>∃c,x=.bl c/\if c=true then tb σ H1 Q else Q (.bl false) H1
def tOrV(ta tb:TE):TE:=fun σ H Q=>ta σ H fun x H1=>∃c,x=.bl c/\if c=true then Q (.bl true) H1 else tb σ H1 Q
def tNotV(ta:TE):TE:=fun σ H Q=>ta σ H fun x H1=>∃c,x=.bl c/\Q (.bl (!c)) H1
theorem q8{op}{t:TE}(h:PE X a t):PE X (.BoolOp op [a] pos) t:=fun pins s σ H Q I hw=>BoolOp_one (h pins s σ H Q I hw)
theorem pc(ha:PE X a ta)(hb:PE X (.BoolOp .And (b::rest) pos) tb):PE X (.BoolOp .And (a::b::rest) pos) (tAndV ta tb):=by
  intro pins s σ H Q I h;refine BoolOp_and (thn (ha pins s σ H _ I h) fun v s1 ⟨x,H1,I1,r1,q1⟩ => ?_);obtain⟨c,rfl,q1⟩:=q1;cases r1;refine wpAny_truthy_bool ?_
  cases c with
  | true=>exact hb pins s1 σ H1 Q I1 q1
  | false=>exact⟨.bl false,H1,I1,rfl,q1⟩
theorem pe_or(ha:PE X a ta)(hb:PE X (.BoolOp .Or (b::rest) pos) tb):PE X (.BoolOp .Or (a::b::rest) pos) (tOrV ta tb):=by
  intro pins s σ H Q I h;refine BoolOp_or (thn (ha pins s σ H _ I h) fun v s1 ⟨x,H1,I1,r1,q1⟩ => ?_);obtain⟨c,rfl,q1⟩:=q1;cases r1;refine wpAny_truthy_bool ?_
  cases c with
  | false=>exact hb pins s1 σ H1 Q I1 q1
  | true=>exact⟨.bl true,H1,I1,rfl,q1⟩
theorem pe_not(ha:PE X a ta):PE X (.UnaryOp .Not a pos) (tNotV ta):=by
  intro pins s σ H Q I h;refine UnaryOp_ (thn (ha pins s σ H _ I h) fun v s1 ⟨x,H1,I1,r1,q1⟩ => ?_);obtain⟨c,rfl,q1⟩:=q1;cases r1;exact not_of (wpAny_truthy_bool ⟨.bl (!c),H1,I1,rfl,q1⟩)
def tIf(t:TT)(ta tb:TE):TE:=fun σ H Q=>t σ H fun c H1=>if c=true then ta σ H1 Q else tb σ H1 Q
theorem zig{c:Expr}(hc:PT X c tA)(ha:PE X a ta)(hb:PE X b tb):PE X (.IfExp c a b pos) (tIf tA ta tb):=by
  intro pins s σ H Q I h;refine wpAny_IfExp (thn (hc pins s σ H _ I h) fun d s1 ⟨H1,I1,q1⟩ => ?_)
  cases d with
  | true=>exact ha pins s1 σ H1 Q I1 q1
  | false=>exact hb pins s1 σ H1 Q I1 q1
end
end L2
namespace L2
open PySem PySem.Spec PyProof.Rows
def SqL(K:Fg)(H:Hp)(a:Addr)(xs:List V):Prop :=
  Rd H a (.lst xs) \/
    ∃(o:Obj) (its:Array Value) (n:Nat),K.lookup a=some o/\o.cls=.type "list" /\ o.dict=none/\o.data=.seq its n/\its.size<=sizeLine/\Vals xs its.toList
def SqT(K:Fg)(H:Hp)(a:Addr)(xs:List V):Prop :=
  Rd H a (.tup xs) \/
    ∃(o:Obj) (its:Array Value) (n:Nat),K.lookup a=some o/\o.cls=.type "tuple" /\ o.data=.seq its n/\its.size<=sizeLine/\Vals xs its.toList
def absV:Value->Option V
  | .none=>some .non
  | .bool b=>some (.bl b)
  | .int i _=>some (.int i)
  | .str x _=>some (.str x)
  | .bytes b _=>some (.byt b)
  | .float b _=>some (.flt b)
  | .ref a=>some (.ref a)
  | .type n=>some (.ty n)
  | _=>none
theorem RelV.abs{x:V}{u:Value}(r:RelV x u):absV u=some x:=by
  cases x with
  | non=>cases r;rfl
  | bl _=>cases r;rfl
  | int _=>obtain⟨t,rfl⟩:=r;rfl
  | str _=>obtain⟨t,rfl⟩:=r;rfl
  | byt _=>obtain⟨t,rfl⟩:=r;rfl
  | flt _=>obtain⟨t,rfl⟩:=r;rfl
  | ref _=>cases r;rfl
  | ty _=>cases r;rfl
theorem RelV.inj{x y:V}{u:Value}(r:RelV x u)(q:RelV y u):x=y:=Option.some.inj (r.abs.symm.trans q.abs)
theorem Vals.inj:∀{xs ys:List V} {us:List Value},Vals xs us->Vals ys us->xs=ys
  | _,_,_,.nil,.nil=>rfl
  | _,_,_,.cons r t,.cons r' t'=>by rw[r.inj r',Vals.inj t t']
section
variable{X:Cx}{pins:List (Addr×Obj)}{σ:St}{H:Hp}{s:Shared}{a:Addr}{xs ys:List V}
theorem SqL.of{K:Fg}(h:H a=some (.lst xs)):SqL K H a xs:=.inl (.inl h)
theorem SqT.of{K:Fg}(h:H a=some (.tup xs)):SqT K H a xs:=.inl (.inl h)
theorem Inv.list(I:Inv X pins σ H s)(h:SqL X.K H a xs):∃its:List Value,Vals xs its/\PlainL s.heap a its.toArray/\xs.length<=sizeLine:=by
  rcases h with h | ⟨o,its,n,hk,hc,hd,hs,hz,r⟩
  . obtain⟨z,its,n,r,e⟩:=h.ok I.hok
    exact⟨its,r,⟨_,n,e,rfl,rfl,rfl⟩,z⟩
  . refine⟨its.toList,r,⟨o,n,I.kIn a o hk,hc,hd,by simpa using hs⟩,?_⟩
    have e:=r.length;simp only[Yd]at e;omega
theorem Inv.tuple(I:Inv X pins σ H s)(h:SqT X.K H a xs):∃its:List Value,Vals xs its/\IsTup s.heap a its.toArray/\xs.length<=sizeLine:=by
  rcases h with h | ⟨o,its,n,hk,hc,hs,hz,r⟩
  . obtain⟨z,its,r,p⟩:=h.ok I.hok
    exact⟨its,r,p.tup,z⟩
  . refine⟨its.toList,r,⟨o,I.kIn a o hk,hc,n,by simpa using hs⟩,?_⟩
    have e:=r.length;simp only[Yd]at e;omega
theorem Inv.list_inj(I:Inv X pins σ H s)(h:SqL X.K H a xs)(h':SqL X.K H a ys):xs=ys:=by
  obtain⟨its,r,⟨o,n,e,_,_,d⟩,_⟩:=I.list h;obtain⟨its',r',⟨o',n',e',_,_,d'⟩,_⟩:=I.list h';rw[e]at e';cases e';rw[d]at d'
  injection d' with d1 _
  have:its=its':=by simpa using congrArg Array.toList d1
  subst this;exact r.inj r'
theorem Inv.tuple_inj(I:Inv X pins σ H s)(h:SqT X.K H a xs)(h':SqT X.K H a ys):xs=ys:=by
  obtain⟨its,r,⟨o,e,_,n,d⟩,_⟩:=I.tuple h;obtain⟨its',r',⟨o',e',_,n',d'⟩,_⟩:=I.tuple h';rw[e]at e';cases e';rw[d]at d'
  injection d' with d1 _
  have:its=its':=by simpa using congrArg Array.toList d1
  subst this;exact r.inj r'
end
abbrev Cx.wish(X:Cx)(E:Value->Shared->Prop):Cx:={ X with xe:=E }
abbrev Cx.nox(X:Cx):Cx:=X.wish fun _ _=>False
theorem Cx.Ok.wish{X:Cx}(ok:X.Ok)(E:Value->Shared->Prop):(X.wish E).Ok :=
  ⟨ok.mod,ok.kind,ok.glob,ok.blt,ok.above,ok.inj,ok.has,ok.cab,ok.hd,ok.frames,ok.stk,ok.exf,ok.bs,ok.bsz,ok.noex,ok.exfs,ok.funs,ok.frf⟩
theorem Cx.Ok.unwish{X:Cx}{E:Value->Shared->Prop}(ok:(X.wish E).Ok):X.Ok :=
  ⟨ok.mod,ok.kind,ok.glob,ok.blt,ok.above,ok.inj,ok.has,ok.cab,ok.hd,ok.frames,ok.stk,ok.exf,ok.bs,ok.bsz,ok.noex,ok.exfs,ok.funs,ok.frf⟩
section
variable{X:Cx}{pins:List (Addr×Obj)}{σ:St}{H:Hp}{s:Shared}{E:Value->Shared->Prop}
theorem Inv.wish(I:Inv X pins σ H s)(E:Value->Shared->Prop):Inv (X.wish E) pins σ H s:=⟨I.ok.wish E,I.os,I.bare,I.base,I.loc,I.cell,I.free,I.freeC,I.pin,I.hok,I.len⟩
theorem Inv.unwish(I:Inv (X.wish E) pins σ H s):Inv X pins σ H s:=⟨I.ok.unwish,I.os,I.bare,I.base,I.loc,I.cell,I.free,I.freeC,I.pin,I.hok,I.len⟩
theorem SP.unwish{D:Ends}{f:Flow}{s':Shared}(h:SP (X.wish E) pins D f s'):SP X pins D f s':=by
  cases f with
  | next=>obtain⟨σ',H',I,q⟩:=h;exact⟨σ',H',I.unwish,q⟩
  | brk=>obtain⟨σ',H',I,q⟩:=h;exact⟨σ',H',I.unwish,q⟩
  | cont=>obtain⟨σ',H',I,q⟩:=h;exact⟨σ',H',I.unwish,q⟩
  | ret u=>obtain⟨v,σ',H',I,r,q⟩:=h;exact⟨v,σ',H',I.unwish,r,q⟩
theorem PE.nox{e:Expr}{t:TE}(h:PE X.nox e t):PE X e t:=fun pins s σ H Q I hw =>
  wpAny_mono (h pins s σ H Q (I.wish _) hw) (fun _ _ ⟨v,H',I',r,q⟩=>⟨v,H',I'.unwish,r,q⟩) fun _ _ z=>False.elim z
theorem PT.nox{e:Expr}{t:TT}(h:PT X.nox e t):PT X e t:=fun pins s σ H Q I hw =>
  wpAny_mono (h pins s σ H Q (I.wish _) hw) (fun _ _ ⟨H',I',q⟩=>⟨H',I'.unwish,q⟩) fun _ _ z=>False.elim z
theorem PSs.nox{st:List Stmt}{t:TS}(h:PSs X.nox st t):PSs X st t:=fun pins s σ H D I hw =>
  wpAny_mono (h pins s σ H D (I.wish _) hw) (fun _ _ q=>q.unwish) fun _ _ z=>False.elim z
end
section
variable{X:Cx}{st:Stmt}{rest:List Stmt}{t u:TS}{e:Expr}{te:TE}{pos:Pos}
def tNext:TS:=fun D σ H=>D.nx σ H
def tSeq(t u:TS):TS:=fun D σ H=>t { D with nx:=u D } σ H
theorem yg:PSs X [] tNext:=fun _ _ σ H _ I h=>wpAny_execs_nil ⟨σ,H,I,h⟩
theorem zj(h1:PS X st t)(h2:PSs X rest u):PSs X (st::rest) (tSeq t u):=by
  intro pins s σ H D I h;refine wpAny_execs_cons (thn (h1 pins s σ H { D with nx:=u D } I h) fun f s1 q => ?_)
  cases f with
  | next =>
    obtain⟨σ',H',I',q⟩:=q;exact h2 pins s1 σ' H' D I' q
  | ret v=>exact q
  | brk=>exact q
  | cont=>exact q
theorem zi(h1:PS X st t):PSs X [st] t:=by
  intro pins s σ H D I h;refine wpAny_execs_cons (thn (h1 pins s σ H D I h) fun f s1 q => ?_)
  cases f with
  | next=>exact wpAny_execs_nil q
  | ret v=>exact q
  | brk=>exact q
  | cont=>exact q
def tBreak:TS:=fun D σ H=>D.bk σ H
def tCont:TS:=fun D σ H=>D.ct σ H
theorem Inv.quiet{pins:List (Addr×Obj)}{σ:St}{H:Hp}{s:Shared}(I:Inv X pins σ H s):interactive X.env=false:=by simp[interactive,I.ok.kind]
def tDrop(te:TE):TS:=fun D σ H=>te σ H fun _ H1=>D.nx σ H1
theorem r6(he:PE X e te)(hs:swapsWith e none pos.line X.env=pure false:=by rfl):PS X (.Expr e pos) (tDrop te):=by
  intro pins s σ H D I h;exact wpAny_Expr_any (thn (he pins s σ H _ I h) fun v s1 ⟨x,H1,I1,r1,q1⟩=>⟨σ,H1,I1,q1⟩) I.quiet hs
def tRet(te:TE):TS:=fun D σ H=>te σ H D.rt
theorem zm(he:PE X e te):PS X (.Return (some e) pos) (tRet te):=by
  intro pins s σ H D I h;exact wpAny_Return_some (thn (he pins s σ H _ I h) fun v s1 ⟨x,H1,I1,r1,q1⟩=>⟨x,σ,H1,I1,r1,q1⟩)
def tRetN:TS:=fun D _ H=>D.rt .non H
def tIfS(c:TT)(t u:TS):TS:=fun D σ H=>c σ H fun b H1=>if b=true then t D σ H1 else u D σ H1
theorem yu{c:Expr}{a b:List Stmt}{tc:TT}(hc:PT X c tc)(ha:PSs X a t)(hb:PSs X b u):PS X (.If c a b pos) (tIfS tc t u):=by
  intro pins s σ H D I h;refine wpAny_If (thn (hc pins s σ H _ I h) fun d s1 ⟨H1,I1,q1⟩ => ?_)
  cases d with
  | true=>exact ha pins s1 σ H1 D I1 q1
  | false=>exact hb pins s1 σ H1 D I1 q1
end
abbrev TG:=V->St->Hp->(St->Hp->Prop)->Prop
abbrev TGs:=List V->St->Hp->(St->Hp->Prop)->Prop
def PG(X:Cx)(target:Expr)(t:TG):Prop :=
  ∀(pins:List (Addr×Obj)) (s:Shared) (σ:St) (H:Hp) (v:V) (u:Value) (Q:St->Hp->Prop),Inv X pins σ H s->RelV v u->t v σ H Q ->
    wpAny (model X.prog X.w) X.A (assign target X.env u) (fun _ s'=>∃σ' H',Inv X pins σ' H' s'/\Q σ' H') X.xe s
def PGs(X:Cx)(ts:List Expr)(t:TGs):Prop :=
  ∀(pins:List (Addr×Obj)) (s:Shared) (σ:St) (H:Hp) (vs:List V) (us:List Value) (Q:St->Hp->Prop),Inv X pins σ H s->Vals vs us->t vs σ H Q ->
    wpAny (model X.prog X.w) X.A (assignInOrder ((assignEach ts X.env).map (·.2)) us) (fun _ s'=>∃σ' H',Inv X pins σ' H' s'/\Q σ' H') X.xe s
abbrev TSet:=V->V->V->Hp->(Hp->Prop)->Prop
def PSet(X:Cx)(t:TSet):Prop :=
  ∀(pins:List (Addr×Obj)) (s:Shared) (σ:St) (H:Hp) (o i v:V) (ov iv u:Value) (Q:Hp->Prop),Inv X pins σ H s->RelV o ov->RelV i iv->RelV v u->t o i v H Q ->
    wpAny (model X.prog X.w) X.A (setItem ov iv u) (fun _ s'=>∃H',Inv X pins σ H' s'/\Q H') X.xe s
abbrev TIp:=V->V->Hp->VK->Prop
section
variable{X:Cx}{pos:Pos}
def ze8(i:Nat):TG:=fun v σ H Q=>Q (σ.set i (some v)) H
theorem zn{i:Nat}{x:Str}(hN:X.N.Nodup)(hi:X.N[i]? = some x)(hx:Loc X.env.scope x)(hf:X.fn x=true\/X.env.scope.names.lookup x=some .local:=by first | exact .inl rfl | exact .inr rfl | assumption):PG X (.Name x pos) (ze8 i):=by
  intro pins s σ H v u Q I r h;exact wpAny_assign_Name (zaj I hN hi hx r (fun s' I'=>⟨_,H,I',h⟩) hf)
def gNil:TGs:=fun vs σ H Q=>vs=[]/\Q σ H
def gCons(t:TG)(u:TGs):TGs:=fun vs σ H Q=>∃v r,vs=v::r/\t v σ H fun σ' H'=>u r σ' H' Q
theorem uk:PGs X [] gNil:=by
  intro pins s σ H vs us Q I r h;obtain⟨e,h⟩:=h;subst e;cases r;exact assignInOrder_nil ⟨σ,H,I,h⟩
theorem y0{e:Expr}{es:List Expr}{t:TG}{u:TGs}(h1:PG X e t)(h2:PGs X es u)
    (hs:(assignEach (e::es) X.env).map (·.2)=assign e X.env::(assignEach es X.env).map (·.2):=by rfl):PGs X (e::es) (gCons t u):=by
  intro pins s σ H vs us Q I r h;obtain⟨v,vr,e1,h⟩:=h;subst e1
  cases r with
  | cons r rr =>
    rw[hs];refine assignInOrder_cons (thn (h1 pins s σ H _ _ _ I r h) fun _ s1 ⟨σ1,H1,I1,q1⟩ => ?_);exact h2 pins s1 σ1 H1 _ _ Q I1 rr q1
def gTup(K:Fg)(n:Nat)(t:TGs):TG:=fun v σ H Q=>∃a xs,v=.ref a/\SqT K H a xs/\xs.length=n/\t xs σ H Q
theorem si{es:List Expr}{k:Nat}{t:TGs}{n:Nat}(hc:X.calm=true)(h:PGs X es t)
    (hn:(assignEach es X.env).length=n:=by rfl) (hst:(assignEach es X.env).findIdx? (·.1)=none:=by rfl):PG X (.Tuple es k pos) (gTup X.K n t):=by
  intro pins s σ H v u Q I r hw;obtain⟨a,xs,e1,hq,hl,hw⟩:=hw;subst e1;cases r;obtain⟨its,rv,ht,hz⟩:=I.tuple hq;refine assign_Tuple_tuple (I.ok.hd hc) ht (by simp[hn,<-hl,rv.length]) hst fun h' hx => ?_
  have I1:Inv X pins σ H { s with heap:=h' }:=I.kept (t':=s.toks) fun b o e=>hx b o (Zs (Heap.lt_size e)) e
  exact h pins _ σ H xs _ Q I1 (by simpa using rv) hw
def gSub(to ti:TE)(t:TSet):TG:=fun v σ H Q=>to σ H fun o H1=>ti σ H1 fun i H2=>t o i v H2 fun H3=>Q σ H3
theorem zbg{o i:Expr}{to ti:TE}{t:TSet}(ho:PE X o to)(hi:PE X i ti)(hs:PSet X t)
    (ha:∀v,assign (.Subscript o i pos) X.env v=(do
      let ov <-holding [v] (eval o X.env)
      let iv <-holding [v,ov] (eval i X.env)
      standAt pos
      holding [v,ov,iv] (setItem ov iv v)
      release [v,ov,iv] []):=by intro _;rfl):PG X (.Subscript o i pos) (gSub to ti t):=by
  intro pins s σ H v u Q I r h;rw[ha];refine wpAny_bind (wpAny_holding (thn (ho pins s σ H _ I h) fun ov s1 ⟨x,H1,I1,r1,q1⟩ => ?_));refine wpAny_bind (wpAny_holding (thn (hi pins s1 σ H1 _ I1 q1) fun iv s2 ⟨y,H2,I2,r2,q2⟩ => ?_));refine wpAny_bind (wpAny_standAt (wpAny_bind (wpAny_holding (thn (hs pins s2 σ H2 x y v ov iv u _ I2 r1 r2 r q2) fun _ s3 ⟨H3,I3,q3⟩ => ?_))));exact wpAny_release ⟨σ,H3,I3,q3⟩
def tAsg(te:TE)(g:TG):TS:=fun D σ H=>te σ H fun x H1=>g x σ H1 D.nx
theorem db{tg e:Expr}{te:TE}{g:TG}(he:PE X e te)(hg:PG X tg g)(hs:swapsWithSole [tg] e pos.line X.env=pure false:=by rfl)(hw:swappedStores [tg] e X.env=pure none:=by rfl)
    (h1:(assignEach [tg] X.env).map (·.2)=[assign tg X.env]:=by rfl):PS X (.Assign [tg] e pos) (tAsg te g):=by
  intro pins s σ H D I h;refine wpAny_Assign_stores (thn (he pins s σ H _ I h) fun v s1 ⟨x,H1,I1,r1,q1⟩ => ?_) hs hw;rw[h1];exact thn (hg pins s1 σ H1 x v _ I1 r1 q1) fun _ s2 q=>q
theorem zy{i:Nat}{x:Str}{e:Expr}{te:TE}{pos':Pos}(hN:X.N.Nodup)(hi:X.N[i]? = some x)(hx:Loc X.env.scope x)(he:PE X e te)(hs:swapsWith e (some (.Name x pos')) pos.line X.env=pure false:=by rfl)(hf:X.fn x=true\/X.env.scope.names.lookup x=some .local:=by first | exact .inl rfl | exact .inr rfl | assumption) :
    PS X (.Assign [.Name x pos'] e pos) (tAsg te (ze8 i)):=by
  intro pins s σ H D I h;refine wpAny_Assign_Name (thn (he pins s σ H _ I h) fun v s1 ⟨y,H1,I1,r1,q1⟩ => ?_) hs;exact zaj I1 hN hi hx r1 (fun s2 I2=>⟨_,H1,I2,q1⟩) hf
def tAugS(to ti te:TE)(tget:V->V->Hp->VK->Prop)(tip:TIp)(tset:TSet):TS:=fun D σ H=>to σ H fun o H1=>ti σ H1 fun i H2=>tget o i H2 fun x H3=>te σ H3 fun y H4=>tip x y H4 fun z H5=>tset o i z H5 fun H6=>D.nx σ H6
def ipI(f:Int->Int->Int):TIp:=fun x y H Q=>∃i j,x=.int i/\y=.int j/\Q (.int (f i j)) H
end
section
variable{X:Cx}{pos:Pos}
end
structure It where
  go:Nat->Hp->Prop
  yld:Nat->Hp->V->Hp->Prop
  stop:Nat->Hp->Prop
def FpOk(X:Cx)(pins:List (Addr×Obj))(H:Hp)(b:Addr):Prop :=
  H b=none/\b≠X.env.locals/\b∉X.fs/\(b∈X.ex\/X.s₀.heap.objs.size<=b)/\(∀x c,X.env.cells.lookup x=some c->c≠b)/\∀p∈X.pn++pins,p.1≠b
theorem Inv.fpOk{X:Cx}{pins:List (Addr×Obj)}{σ:St}{H H':Hp}{s:Shared}{b:Addr}(I:Inv X pins σ H s)(hb:s.heap.objs.size<=b)(hn:H' b=none):FpOk X pins H' b:=by
  refine⟨hn,Ye (Zh I.lt hb),I.nofs hb,.inr (Zd I.sz hb),fun x c e z => ?_,fun p hp z => ?_⟩
  . obtain⟨v,q⟩:=I.cell x c e
    exact absurd (Zh q.lt (by rw[z];exact hb)) (ZJ _)
  . exact absurd (Zh (Heap.lt_size (I.pin p hp).1) (by rw[z];exact hb)) (ZJ _)
structure Turn(P:Program)(w:World)(K:Fg)(tg:Expr)(J:It)(fp:List Addr)(it:Addr)(tn:Nat->Heap->Prop):Prop where
  mem:it∈fp
  obj:∀i h,tn i h->∀b∈fp,∃o,h.get? b=some o/\∀v,o.data≠.cell v
  keep:∀i h h',tn i h->(∀b∈fp,∀o,h.get? b=some o->h'.get? b=some o)->tn i h'
  item:∀(X:Cx),X.prog=P->X.w=w->X.K=K->X.calm=true->∀(i:Nat) (pins:List (Addr×Obj)) (s:Shared) (σ:St) (H:Hp) (E:Value->Shared->Prop),Inv X pins σ H s->(∀b∈fp,FpOk X pins H b)->tn i s.heap->J.go i H ->
    wpAny (model P w) X.A (pyNext (.ref it)) (fun r s1=>∃u,r=some u /\
      wpAny (model P w) X.A (letOwnedTupleGo tg (.ref it) u) (fun _ s2=>∃x H',Inv X pins σ H' s2/\RelV x u/\J.yld i H x H'/\tn (i+1) s2.heap/\∀b∈fp,H' b=none) E s1) E s
  done:∀(X:Cx),X.prog=P->X.w=w->X.K=K->X.calm=true->∀(i:Nat) (pins:List (Addr×Obj)) (s:Shared) (σ:St) (H:Hp) (E:Value->Shared->Prop),Inv X pins σ H s->(∀b∈fp,FpOk X pins H b)->tn i s.heap->J.stop i H ->
    wpAny (model P w) X.A (pyNext (.ref it)) (fun r s1=>r=none/\Inv X pins σ H s1) E s
  self:∀(A:Around) (i:Nat) (s:Shared) (Q:Value->Shared->Prop) (E:Value->Shared->Prop),tn i s.heap->Q (.ref it) s->wpAny (model P w) A (pyIter (.ref it)) Q E s
abbrev TI:=St->Hp->(It->Hp->Prop)->Prop
def PIE(X:Cx)(pins:List (Addr×Obj))(σ:St)(tg:Expr)(R:It->Hp->Prop)(itv:Value)(s2:Shared):Prop :=
  ∃(it:Addr) (fp:List Addr) (tn:Nat->Heap->Prop) (J:It) (H':Hp),itv=.ref it/\Inv X pins σ H' s2/\Turn X.prog X.w X.K tg J fp it tn/\tn 0 s2.heap/\(∀b∈fp,FpOk X pins H' b)/\R J H'
def PI(X:Cx)(tg iter:Expr)(wi:TI):Prop :=
  ∀(pins:List (Addr×Obj)) (s:Shared) (σ:St) (H:Hp) (R:It->Hp->Prop),Inv X pins σ H s->wi σ H R ->
    wpAny (model X.prog X.w) X.A (eval iter X.env) (fun v s1=>wpAny (model X.prog X.w) X.A (pyIter v) (PIE X pins σ tg R) X.xe s1) X.xe s
theorem ip{M:Model}{A:Around}{E:Value->Shared->Prop}{s:Shared}{tg:Expr}{it:Addr}{u:Value}{o:Obj}{n:String}{vs:Array Value}{Q:Unit->Shared->Prop}(ho:s.heap.get? it=some o)(hc:o.cls=.type n)(hd:o.data=.fields vs)
    (hn:["enumerate", "zip", "dict_itemiterator", "dict_reverseitemiterator", "odict_iterator", "itertools.zip_longest", "itertools.pairwise"].contains n=false) (hQ:Q () s):wpAny M A (letOwnedTupleGo tg (.ref it) u) Q E s:=by
  unfold letOwnedTupleGo
  cases tg <;> first
    | exact wpAny_pure hQ
    | (cases u <;> first
        | exact wpAny_pure hQ
        | (refine wpAny_bind (wpAny_load ho ?_)
           rw[hc,hd]
           show wpAny M A (if (["enumerate", "zip", "dict_itemiterator", "dict_reverseitemiterator", "odict_iterator", "itertools.zip_longest", "itertools.pairwise"].contains n&&vs[0]? == some (rawInt _))=true then _ else _) Q E s
           rw[if_neg (by intro h;rw[hn,Bool.false_and]at h;cases h)]
           exact wpAny_pure hQ))
def Itl(K:Fg)(a:Addr):It :=
  ⟨fun i H=>∃xs x,SqL K H a xs/\xs[i]? = some x,fun i H x H'=>H'=H/\∀xs,SqL K H a xs->xs[i]? = some x,fun i H=>∃xs,SqL K H a xs/\xs.length<=i⟩
def Itt(K:Fg)(a:Addr):It :=
  ⟨fun i H=>∃xs x,SqT K H a xs/\xs[i]? = some x,fun i H x H'=>H'=H/\∀xs,SqT K H a xs->xs[i]? = some x,fun i H=>∃xs,SqT K H a xs/\xs.length<=i⟩
def Itr(lo:Int)(n:Nat):It:=⟨fun i _=>i<n,fun i H x H'=>H'=H/\x=.int (lo+i),fun i _=>n<=i⟩
theorem zfl{P:Program}{w:World}{K:Fg}{tg:Expr}(a it:Addr):Turn P w K tg (Itl K a) [it] it (fun i h=>h.IsListIter it a i) where
  mem:=by simp
  obj:=fun i h st b hb=>by
    have e:b=it:=by simpa using hb
    subst e;obtain⟨o,e,c,d⟩:=st;exact⟨o,e,fun v z=>by rw[d]at z;cases z⟩
  keep:=fun i h h' st k=>st.at fun o e=>k it (by simp) o e
  item:=by
    intro X hP hw hK hc i pins s σ H E I hf st hg;subst hP hw hK;obtain⟨xs,x,hq,hx⟩:=hg;obtain⟨its,rv,p,hz⟩:=I.list hq;obtain⟨u,hu,ru⟩:=rv.get hx;obtain⟨f0,f1,f2,f3,f4,f5⟩:=hf it (by simp);refine wpAny_pyNext_list_item st p.isList (x:=u) (by simpa using hu) fun h' st' sb => ?_
    have I1:Inv X pins σ H { s with heap:=h' }:=I.turned (t':=s.toks) (fun b o hb e=>(sb.2 b hb).trans e) f0 f1 f3 f4 f5;obtain⟨o,e,c,d⟩:=id st';exact⟨u,rfl,ip (s:={ s with heap:=h' }) e c d (by decide) ⟨x,H,I1,ru,⟨rfl,fun ys hy=>by rw[I.list_inj hy hq];exact hx⟩,st',fun b hb=>(hf b hb).1⟩⟩
  done:=by
    intro X hP hw hK hc i pins s σ H E I hf st hg;subst hP hw hK;obtain⟨xs,hq,hx⟩:=hg;obtain⟨its,rv,p,hz⟩:=I.list hq;obtain⟨f0,f1,f2,f3,f4,f5⟩:=hf it (by simp);have hl:=rv.length;exact wpAny_pyNext_list_end (I.ok.hd hc) st p.isList (by simp;omega) fun h' eb=>⟨rfl,I.turned (t':=s.toks) (fun b o hb e=>eb b o hb e) f0 f1 f3 f4 f5⟩
  self:=fun _ _ _ _ _ st h=>wpAny_pyIter_listiter st h
theorem ze9{P:Program}{w:World}{K:Fg}{tg:Expr}(a it:Addr):Turn P w K tg (Itt K a) [it] it (fun i h=>h.IsTupleIter it a i) where
  mem:=by simp
  obj:=fun i h st b hb=>by
    have e:b=it:=by simpa using hb
    subst e;obtain⟨o,e,c,d⟩:=st;exact⟨o,e,fun v z=>by rw[d]at z;cases z⟩
  keep:=fun i h h' st k=>st.at fun o e=>k it (by simp) o e
  item:=by
    intro X hP hw hK hc i pins s σ H E I hf st hg;subst hP hw hK;obtain⟨xs,x,hq,hx⟩:=hg;obtain⟨its,rv,p,hz⟩:=I.tuple hq;obtain⟨u,hu,ru⟩:=rv.get hx;obtain⟨f0,f1,f2,f3,f4,f5⟩:=hf it (by simp);refine wpAny_pyNext_tuple_item st (show s.heap.IsTuple a its.toArray from p) (x:=u) (by simpa using hu) fun h' st' sb => ?_
    have I1:Inv X pins σ H { s with heap:=h' }:=I.turned (t':=s.toks) (fun b o hb e=>(sb.2 b hb).trans e) f0 f1 f3 f4 f5;obtain⟨o,e,c,d⟩:=id st';exact⟨u,rfl,ip (s:={ s with heap:=h' }) e c d (by decide) ⟨x,H,I1,ru,⟨rfl,fun ys hy=>by rw[I.tuple_inj hy hq];exact hx⟩,st',fun b hb=>(hf b hb).1⟩⟩
  done:=by
    intro X hP hw hK hc i pins s σ H E I hf st hg;subst hP hw hK;obtain⟨xs,hq,hx⟩:=hg;obtain⟨its,rv,p,hz⟩:=I.tuple hq;obtain⟨f0,f1,f2,f3,f4,f5⟩:=hf it (by simp);have hl:=rv.length;exact wpAny_pyNext_tuple_end (I.ok.hd hc) st (show s.heap.IsTuple a its.toArray from p) (by simp;omega) fun h' eb=>⟨rfl,I.turned (t':=s.toks) (fun b o hb e=>eb b o hb e) f0 f1 f3 f4 f5⟩
  self:=fun _ _ _ _ _ st h=>wpAny_pyIter_tupleiter st h
theorem zez{P:Program}{w:World}{K:Fg}{tg:Expr}(it:Addr)(lo:Int)(n:Nat):Turn P w K tg (Itr lo n) [it] it (fun i h=>IsRangeIter h it (lo+(i:Nat)*1) ((n:Int)-(i:Nat)) 1) where
  mem:=by simp
  obj:=fun i h st b hb=>by
    have e:b=it:=by simpa using hb
    subst e
    exact⟨_,st,fun v z=>by
      have z':Data.fields _=Data.cell v:=z
      cases z'⟩
  keep:=fun i h h' st k=>k it (by simp) _ st
  item:=by
    intro X hP hw hK hc i pins s σ H E I hf st hg;subst hP hw hK;obtain⟨f0,f1,f2,f3,f4,f5⟩:=hf it (by simp);have W:=Walks.range (prog:=X.prog) (w:=X.w) (I.ok.hd hc) it lo 1 n;refine W.item i s _ _ hg st fun v h' tk hv st' kk => ?_
    obtain⟨t,rfl⟩:=hv;have I1:Inv X pins σ H { s with heap:=h',toks:=tk }:=I.turned (fun b o hb e=>kk b o (by simpa using hb) e) f0 f1 f3 f4 f5;refine⟨_,rfl,ip (s:={ s with heap:=h',toks:=tk }) (n := "range_iterator") st' rfl rfl (by decide) ⟨.int (lo+i),H,I1,⟨t,?_⟩,⟨rfl,rfl⟩,st',fun b hb=>(hf b hb).1⟩⟩;rw[Int.mul_one]
  done:=by
    intro X hP hw hK hc i pins s σ H E I hf st hg;subst hP hw hK;obtain⟨f0,f1,f2,f3,f4,f5⟩:=hf it (by simp);exact wpAny_pyNext_range_end (I.ok.hd hc) st (by have:n<=i:=hg;omega) fun h' eb=>⟨rfl,I.turned (t':=s.toks) (fun b o hb e=>eb b o hb e) f0 f1 f3 f4 f5⟩
  self:=fun _ _ _ _ _ st h=>wpAny_pyIter_rangeiter st h
end L2
namespace L2
open PySem PySem.Spec PyProof.Rows
section
variable{X:Cx}{tg:Expr}
def iList(K:Fg)(tl:TE):TI:=fun σ H R=>tl σ H fun x H1=>∃a,x=.ref a/\(∃xs,SqL K H1 a xs)/\R (Itl K a) H1
def iTup(K:Fg)(tl:TE):TI:=fun σ H R=>tl σ H fun x H1=>∃a,x=.ref a/\(∃xs,SqT K H1 a xs)/\R (Itt K a) H1
theorem yb{l:Expr}{tl:TE}(hl:PE X l tl):PI X tg l (iList X.K tl):=by
  intro pins s σ H R I h;refine thn (hl pins s σ H _ I h) fun v s1 ⟨x,H1,I1,r1,q1⟩ => ?_
  obtain⟨a,e,⟨xs,hq⟩,q⟩:=q1;subst e;cases r1;obtain⟨its,rv,p,hz⟩:=I1.list hq;refine wpAny_pyIter_list p.isList ?_;refine⟨s1.heap.objs.size,[s1.heap.objs.size],_,_,H1,rfl,I1.kept (t':=s1.toks) fun b o e=>Heap.get?_push_of_some _ e,zfl a _,⟨_,Heap.get?_push_size _ rfl,rfl,rfl⟩,fun b hb => ?_,q⟩;have e:b=s1.heap.objs.size:=by simpa using hb
  subst e;exact I1.fpOk (Zm _) (I1.hok.fresh (Zm _))
theorem dc{l:Expr}{tl:TE}(hl:PE X l tl):PI X tg l (iTup X.K tl):=by
  intro pins s σ H R I h;refine thn (hl pins s σ H _ I h) fun v s1 ⟨x,H1,I1,r1,q1⟩ => ?_
  obtain⟨a,e,⟨xs,hq⟩,q⟩:=q1;subst e;cases r1;obtain⟨its,rv,p,hz⟩:=I1.tuple hq;refine wpAny_pyIter_tuple (show s1.heap.IsTuple a its.toArray from p) ?_;refine⟨s1.heap.objs.size,[s1.heap.objs.size],_,_,H1,rfl,I1.kept (t':=s1.toks) fun b o e=>Heap.get?_push_of_some _ e,ze9 a _,⟨_,Heap.get?_push_size _ rfl,rfl,rfl⟩,fun b hb => ?_,q⟩;have e:b=s1.heap.objs.size:=by simpa using hb
  subst e;exact I1.fpOk (Zm _) (I1.hok.fresh (Zm _))
theorem zbh{pins:List (Addr×Obj)}{σ:St}{H:Hp}{s:Shared}{R:It->Hp->Prop}{E:Value->Shared->Prop}{lo hi:Int}{t u v:Tok}{tk:Nat}(I:Inv X pins σ H s)(h1 : -(2^62)<=lo)(h2:lo<2^62)(h3 : -(2^62)<=hi)(h4:hi<2^62)
    (q:R (Itr lo (hi-lo).toNat) H):wpAny (model X.prog X.w) X.A (pyIter (.ref s.heap.objs.size)) (PIE X pins σ tg R) E { s with heap:=s.heap.push { cls:=.type "range", data:=.fields #[.int lo t,.int hi u,.int 1 v] },toks:=tk }:=by
  refine wpAny_pyIter_range (IsRange.new ..) (small_one h1 h2 h3 h4) ?_;have I1:Inv X pins σ H { s with heap:=s.heap.push { cls:=.type "range", data:=.fields #[.int lo t,.int hi u,.int 1 v] },toks:=tk }:=I.kept fun b o e=>Heap.get?_push_of_some _ e
  refine⟨(s.heap.push { cls:=.type "range", data:=.fields #[.int lo t,.int hi u,.int 1 v] }).objs.size,[(s.heap.push { cls:=.type "range", data:=.fields #[.int lo t,.int hi u,.int 1 v] }).objs.size],_,_,H,rfl,
    I1.kept (t':=tk) fun b o e=>Heap.get?_push_of_some _ e,zez _ lo (hi-lo).toNat,?_,fun b hb => ?_,q⟩
  . have e1:lo+((0:Nat):Int)*1=lo:=by simp
    have e2:(((hi-lo).toNat:Nat):Int)-((0:Nat):Int)=Builtin.Range.rangeSize lo hi 1:=by rw[rangeSize_one];split <;> omega
    show IsRangeIter _ _ (lo+((0:Nat):Int)*1) ((((hi-lo).toNat:Nat):Int)-((0:Nat):Int)) 1
    rw[e1,e2];exact Heap.get?_push_size _ rfl
  . have e:b=(s.heap.push { cls:=.type "range", data:=.fields #[.int lo t,.int hi u,.int 1 v] }).objs.size:=by simpa using hb
    subst e;exact I1.fpOk (Zm _) (I1.hok.fresh (Zm _))
def iRng1(ta:TA):TI:=fun σ H R=>ta σ H fun vs H1=>∃j:Int,vs=[.int j] /\ -(2^62)<=j/\j<2^62/\R (Itr 0 j.toNat) H1
def iRng2(ta:TA):TI:=fun σ H R=>ta σ H fun vs H1=>∃i j:Int,vs=[.int i,.int j]/\(-(2^62)<=i/\i<2^62 /\ -(2^62)<=j/\j<2^62)/\R (Itr i (j-i).toNat) H1
theorem yv {a:Expr} {ta:TA} {p pos:Pos} (hg:Gl X "range") (hm:X.mg "range" = none) (ha:PA X [a] ta) (hs:starEach [a] X.env=[(false,eval a X.env)]:=by rfl):PI X tg (.Call (.Name "range" p) [a] [] pos) (iRng1 ta):=by
  intro pins s σ H R I h;refine Call_ (vi I hg hm boot_range (PyProof.Rows.callWith_type1 (thn (ha pos pins s σ H _ I h) fun us s1 ⟨vs,H1,I1,r1,q1⟩ => ?_) hs rfl));obtain⟨j,e,q1,q2,q⟩:=q1;subst e
  cases r1 with
  | cons r rr =>
    cases rr;obtain⟨t,rfl⟩:=r;exact call_range_1 (zbh I1 (by omega) (by omega) q1 q2 (by simpa using q))
theorem j6 {a b:Expr} {ta:TA} {p pos:Pos} (hg:Gl X "range") (hm:X.mg "range" = none) (ha:PA X [a,b] ta) (hs:starEach [a,b] X.env=[(false,eval a X.env),(false,eval b X.env)]:=by rfl) (hs2:starEach [b] X.env=[(false,eval b X.env)]:=by rfl) :
    PI X tg (.Call (.Name "range" p) [a,b] [] pos) (iRng2 ta):=by
  intro pins s σ H R I h;refine Call_ (vi I hg hm boot_range (PyProof.Rows.callWith_type1 (thn (ha pos pins s σ H _ I h) fun us s1 ⟨vs,H1,I1,r1,q1⟩ => ?_) (by rw[hs,hs2]) (by rw[hs2];rfl)));obtain⟨i,j,e,⟨q1,q2,q3,q4⟩,q⟩:=q1;subst e
  cases r1 with
  | cons r rr =>
    cases rr with
    | cons r' rr =>
      cases rr;obtain⟨t,rfl⟩:=r;obtain⟨t',rfl⟩:=r';exact call_range_2 (zbh I1 q1 q2 q3 q4 q)
def tFor(wi:TI)(g:TG)(tb:TS):TS:=fun D σ H=>wi σ H fun J H1=>∃W:Nat->Nat->St->Hp->Prop,(∃m,W 0 m σ H1)/\∀i m σ H,W i m σ H ->
  (J.stop i H/\D.nx σ H)\/(J.go i H/\∃N:St->Hp->Prop,(∀σ' H',N σ' H'->∃m',m'<m/\W (i+1) m' σ' H')/\∀x H',J.yld i H x H'->g x σ H' fun σ2 H2=>tb { D with nx:=N,ct:=N,bk:=D.nx } σ2 H2)
def jw(fp:List Addr)(h:Heap):List (Addr×Obj):=fp.filterMap fun b=>(h.get? b).map fun o=>(b,o)
theorem sd{fp:List Addr}{h:Heap}{b:Addr}{o:Obj}(hb:b∈fp)(e:h.get? b=some o):(b,o)∈jw fp h:=ZY.mpr ⟨b,hb,by rw[e];rfl⟩
theorem zg8{fp:List Addr}{h:Heap}{p:Addr×Obj}(hp:p∈jw fp h):p.1∈fp/\h.get? p.1=some p.2:=by
  obtain⟨b,hb,e⟩:=ZY.mp hp
  cases q:h.get? b with
  | none=>rw[q]at e;cases e
  | some o =>
    rw[q]at e;have e':(b,o)=p:=Option.some.inj e;subst e';exact⟨hb,q⟩
theorem Inv.pinned{pins:List (Addr×Obj)}{σ:St}{H:Hp}{s:Shared}{fp:List Addr}(I:Inv X pins σ H s)(hf:∀b∈fp,FpOk X pins H b)(ho:∀b∈fp,∃o,s.heap.get? b=some o/\∀v,o.data≠.cell v):Inv X (pins++jw fp s.heap) σ H s :=
  I.pins_of fun p hp=>(ZH.mp hp).elim (fun z=>I.pin p (Zu _ z)) fun z=>by
    obtain⟨hb,e⟩:=zg8 z;obtain⟨f0,f1,f2,_⟩:=hf p.1 hb;obtain⟨o,e',d⟩:=ho p.1 hb;rw[e]at e';cases e';exact⟨e,f0,f1,f2,d⟩
theorem Inv.unpinned{pins pl:List (Addr×Obj)}{σ:St}{H:Hp}{s:Shared}(I:Inv X (pins++pl) σ H s):Inv X pins σ H s:=I.pins_of fun p hp=>I.pin p (Zu _ (ZW _ hp))
theorem xc{iter:Expr}{body:List Stmt}{wi:TI}{g:TG}{tb:TS}{pos:Pos}(hp:PassesOwn (model X.prog X.w) X.A X.env X.xe)(hc:X.calm=true)(hi:PI X tg iter wi)(hg:PG X tg g)(hb:PSs X body tb)
    (hs:∀x,foldedSetIterable iter X.env x=pure x:=by intro _;rfl):PS X (.For tg iter body [] pos) (tFor wi g tb):=by
  intro pins s σ H D I h;refine wpAny_For (thn (hi pins s σ H _ I h) fun v s1 h1=>thn h1 fun itv s2 h2 => ?_) hs;obtain⟨it,fp,tn,J,H2,e,I2,T,st2,f2,W,⟨m0,w0⟩,turn⟩:=h2;subst e
  -- what stays true of the iterator's objects through the loop
  have stat:∀{H':Hp},(∀b∈fp,H' b=none)->∀b∈fp,FpOk X pins H' b:=fun hn b hb=>⟨hn b hb,(f2 b hb).2⟩
  refine codeAny_forLoop_any (fun n s'=>∃i σ' H',Inv X pins σ' H' s'/\tn i s'.heap/\(∀b∈fp,H' b=none)/\W i n σ' H') ?_ m0 ⟨0,σ,H2,I2,st2,fun b hb=>(f2 b hb).1,w0⟩
  rintro n s3 ⟨i,σ3,H3,I3,st3,fr3,w3⟩
  rcases turn i n σ3 H3 w3 with ⟨stop,qn⟩ | ⟨go,N,hN,step⟩
  . refine wpAny_passesOwn hp (thn (T.done X rfl rfl rfl hc i pins s3 σ3 H3 X.xe I3 (stat fr3) st3 stop) fun r s4 ⟨hr,I4⟩ => ?_)
    subst hr;exact wpAny_execs_nil ⟨σ3,H3,I4,qn⟩
  . refine wpAny_passesOwn hp (thn (T.item X rfl rfl rfl hc i pins s3 σ3 H3 X.xe I3 (stat fr3) st3 go) fun r s4 ⟨u,hr,h4⟩ => ?_)
    subst hr;refine wpAny_passesOwn hp (thn h4 fun _ s5 ⟨x,H5,I5,r5,y5,st5,fr5⟩ => ?_);have I5':=I5.pinned (stat fr5) (T.obj _ _ st5);refine wpAny_passesOwn hp (thn (hg _ s5 σ3 H5 x u _ I5' r5 (step x H5 y5)) fun _ s6 ⟨σ6,H6,I6,q6⟩ => ?_);refine wpAny_passesOwn hp (thn (hb _ s6 σ6 H6 _ I6 q6) fun f s7 q7 => ?_)
    have again:∀{σ7:St} {H7:Hp},Inv X (pins++jw fp s5.heap) σ7 H7 s7->N σ7 H7->∃m,m<n/\∃i σ' H',Inv X pins σ' H' s7/\tn i s7.heap/\(∀b∈fp,H' b=none)/\W i m σ' H':=fun {σ7 H7} I7 n7=>by
      obtain⟨m',hm,w7⟩:=hN σ7 H7 n7;refine⟨m',hm,i+1,σ7,H7,I7.unpinned,T.keep _ _ _ st5 fun b hb o e=>(I7.pin (b,o) (Zu _ (Zu _ (sd hb e)))).1,fun b hb => ?_,w7⟩;obtain⟨o,e,d⟩:=T.obj _ _ st5 b hb;exact(I7.pin (b,o) (Zu _ (Zu _ (sd hb e)))).2.1
    cases f with
    | next=>obtain⟨σ7,H7,I7,n7⟩:=q7;exact again I7 n7
    | cont=>obtain⟨σ7,H7,I7,n7⟩:=q7;exact again I7 n7
    | brk=>obtain⟨σ7,H7,I7,q7⟩:=q7;exact⟨σ7,H7,I7.unpinned,q7⟩
    | ret v=>obtain⟨x7,σ7,H7,I7,r7,q7⟩:=q7;exact⟨x7,σ7,H7,I7.unpinned,r7,q7⟩
end
theorem w9{K:Fg}{a:Addr}{xs:List V}{g:TG}{tb:TS}{D:Ends}{σ:St}{H:Hp}(Pv:Nat->St->Hp->Prop)(h0:Pv 0 σ H)(hl:∀i σ H,i<=xs.length->Pv i σ H->SqL K H a xs)
    (hs:∀i x σ H,xs[i]? = some x->Pv i σ H->g x σ H fun σ2 H2=>tb { D with nx:=Pv (i+1),ct:=Pv (i+1),bk:=D.nx } σ2 H2) (hd:∀σ H,Pv xs.length σ H->D.nx σ H) :
    ∃W:Nat->Nat->St->Hp->Prop,(∃m,W 0 m σ H)/\∀i m σ H,W i m σ H ->
      ((Itl K a).stop i H/\D.nx σ H)\/((Itl K a).go i H/\∃N:St->Hp->Prop,(∀σ' H',N σ' H'->∃m',m'<m/\W (i+1) m' σ' H')/\∀x H',(Itl K a).yld i H x H'->g x σ H' fun σ2 H2=>tb { D with nx:=N,ct:=N,bk:=D.nx } σ2 H2):=by
  refine⟨fun i m σ H=>m=xs.length-i/\i<=xs.length/\Pv i σ H,⟨xs.length,by simp,ZE _,h0⟩,?_⟩
  rintro i m σ H ⟨rfl,hi,p⟩
  have q:=hl i σ H hi p
  by_cases hlt:i<xs.length
  . refine .inr ⟨⟨xs,xs[i],q,by simp[hlt]⟩,Pv (i+1),fun σ' H' p'=>⟨xs.length-(i+1),by omega,rfl,hlt,p'⟩,fun x H' y => ?_⟩
    obtain⟨e,y⟩:=y;subst e;exact hs i x σ _ (y xs q) p
  . have e:i=xs.length:=by omega
    subst e;exact .inl ⟨⟨xs,q,Zm _⟩,hd σ H p⟩
theorem zkd{K:Fg}{a:Addr}{xs:List V}{g:TG}{tb:TS}{D:Ends}{σ:St}{H:Hp}(Pv:Nat->St->Hp->Prop)(h0:Pv 0 σ H)(hl:∀i σ H,i<=xs.length->Pv i σ H->SqT K H a xs)
    (hs:∀i x σ H,xs[i]? = some x->Pv i σ H->g x σ H fun σ2 H2=>tb { D with nx:=Pv (i+1),ct:=Pv (i+1),bk:=D.nx } σ2 H2) (hd:∀σ H,Pv xs.length σ H->D.nx σ H) :
    ∃W:Nat->Nat->St->Hp->Prop,(∃m,W 0 m σ H)/\∀i m σ H,W i m σ H ->
      ((Itt K a).stop i H/\D.nx σ H)\/((Itt K a).go i H/\∃N:St->Hp->Prop,(∀σ' H',N σ' H'->∃m',m'<m/\W (i+1) m' σ' H')/\∀x H',(Itt K a).yld i H x H'->g x σ H' fun σ2 H2=>tb { D with nx:=N,ct:=N,bk:=D.nx } σ2 H2):=by
  refine⟨fun i m σ H=>m=xs.length-i/\i<=xs.length/\Pv i σ H,⟨xs.length,by simp,ZE _,h0⟩,?_⟩
  rintro i m σ H ⟨rfl,hi,p⟩
  have q:=hl i σ H hi p
  by_cases hlt:i<xs.length
  . refine .inr ⟨⟨xs,xs[i],q,by simp[hlt]⟩,Pv (i+1),fun σ' H' p'=>⟨xs.length-(i+1),by omega,rfl,hlt,p'⟩,fun x H' y => ?_⟩
    obtain⟨e,y⟩:=y;subst e;exact hs i x σ _ (y xs q) p
  . have e:i=xs.length:=by omega
    subst e;exact .inl ⟨⟨xs,q,Zm _⟩,hd σ H p⟩
theorem xx{lo:Int}{n:Nat}{g:TG}{tb:TS}{D:Ends}{σ:St}{H:Hp}(Pv:Nat->St->Hp->Prop)(h0:Pv 0 σ H)
    (hs:∀i σ H,i<n->Pv i σ H->g (.int (lo+i)) σ H fun σ2 H2=>tb { D with nx:=Pv (i+1),ct:=Pv (i+1),bk:=D.nx } σ2 H2) (hd:∀σ H,Pv n σ H->D.nx σ H) :
    ∃W:Nat->Nat->St->Hp->Prop,(∃m,W 0 m σ H)/\∀i m σ H,W i m σ H ->
      ((Itr lo n).stop i H/\D.nx σ H)\/((Itr lo n).go i H/\∃N:St->Hp->Prop,(∀σ' H',N σ' H'->∃m',m'<m/\W (i+1) m' σ' H')/\∀x H',(Itr lo n).yld i H x H'->g x σ H' fun σ2 H2=>tb { D with nx:=N,ct:=N,bk:=D.nx } σ2 H2):=by
  refine⟨fun i m σ H=>m=n-i/\i<=n/\Pv i σ H,⟨n,by simp,ZE _,h0⟩,?_⟩
  rintro i m σ H ⟨rfl,hi,p⟩
  by_cases hlt:i<n
  . refine .inr ⟨hlt,Pv (i+1),fun σ' H' p'=>⟨n-(i+1),by omega,rfl,hlt,p'⟩,fun x H' y => ?_⟩
    obtain⟨e,y⟩:=y;subst e y;exact hs i σ _ hlt p
  . have e:i=n:=by omega
    subst e;exact .inl ⟨Zm _,hd σ H p⟩
end L2
namespace L2
open PySem PySem.Spec PyProof.Rows
abbrev R2:=V->V->Hp->VK->Prop
def OpR(X:Cx)(f:Value->Value->Sem Value)(r:R2):Prop :=
  ∀(pins:List (Addr×Obj)) (s:Shared) (σ:St) (H:Hp) (x y:V) (v u:Value) (Q:VK),Inv X pins σ H s->RelV x v->RelV y u->r x y H Q ->
    wpAny (model X.prog X.w) X.A (f v u) (EP X pins σ Q) X.xe s
def UnR(X:Cx)(f:Value->Sem Value)(r:V->Hp->VK->Prop):Prop :=
  ∀(pins:List (Addr×Obj)) (s:Shared) (σ:St) (H:Hp) (x:V) (v:Value) (Q:VK),Inv X pins σ H s->RelV x v->r x H Q ->
    wpAny (model X.prog X.w) X.A (f v) (EP X pins σ Q) X.xe s
def CallR(X:Cx)(f:Value)(r:List V->Hp->VK->Prop):Prop :=
  ∀(pins:List (Addr×Obj)) (s:Shared) (σ:St) (H:Hp) (xs:List V) (us:List Value) (Q:VK),Inv X pins σ H s->Vals xs us->r xs H Q ->
    wpAny (model X.prog X.w) X.A (call f us) (EP X pins σ Q) X.xe s
def tOp(r:R2)(ta tb:TE):TE:=fun σ H Q=>ta σ H fun x H1=>tb σ H1 fun y H2=>r x y H2 Q
def tUn(r:V->Hp->VK->Prop)(ta:TE):TE:=fun σ H Q=>ta σ H fun x H1=>r x H1 Q
def rI(C:Int->Int->Prop)(g:Int->Int->V):R2:=fun x y H Q=>∃i j,x=.int i/\y=.int j/\C i j/\Q (g i j) H
def rI0(g:Int->Int->V):R2:=fun x y H Q=>∃i j,x=.int i/\y=.int j/\Q (g i j) H
def rU(g:Int->V):V->Hp->VK->Prop:=fun x H Q=>∃i,x=.int i/\Q (g i) H
section
variable{X:Cx}{a b c:Expr}{ta tb tc:TE}{pos:Pos}
theorem binT(ha:PE X a ta)(hb:PE X b tb){pins:List (Addr×Obj)}{s:Shared}{σ:St}{H:Hp}{R:V->V->Hp->Prop}(I:Inv X pins σ H s)
    (h:ta σ H fun x H1=>tb σ H1 fun y H2=>R x y H2) {Q:Value->Shared->Prop} {f:Value->Value->Sem Value}
    (hf:∀v u s2 x y H2,Inv X pins σ H2 s2->RelV x v->RelV y u->R x y H2->wpAny (model X.prog X.w) X.A (f v u) Q X.xe s2) :
    wpAny (model X.prog X.w) X.A (eval a X.env) (fun v s₁=>wpAny (model X.prog X.w) X.A (eval b X.env) (fun u s₂=>wpAny (model X.prog X.w) X.A (f v u) Q X.xe s₂) X.xe s₁) X.xe s:=by
  refine thn (ha pins s σ H _ I h) fun v s1 ⟨x,H1,I1,r1,q1⟩ => ?_
  refine thn (hb pins s1 σ H1 _ I1 q1) fun u s2 ⟨y,H2,I2,r2,q2⟩ => ?_
  exact hf v u s2 x y H2 I2 r1 r2 q2
theorem zk{op:Operator}{r:R2}(ho:OpR X (binaryOp op) r)(ha:PE X a ta)(hb:PE X b tb):PE X (.BinOp a op b pos) (tOp r ta tb):=by
  intro pins s σ H Q I h;exact wpAny_BinOp (binT ha hb I h fun v u s2 x y H2 I2 rx ry q=>ho pins s2 σ H2 x y v u Q I2 rx ry q)
theorem zd4{op:UnaryOp}{r:V->Hp->VK->Prop}(ho:UnR X (unaryOp op) r)(ha:PE X a ta):PE X (.UnaryOp op a pos) (tUn r ta):=by
  intro pins s σ H Q I h;exact UnaryOp_ (thn (ha pins s σ H _ I h) fun v s1 ⟨x,H1,I1,r1,q1⟩=>ho pins s1 σ H1 x v Q I1 r1 q1)
theorem opI{f:Value->Value->Sem Value}{C:Int->Int->Prop}{g:Int->Int->Int}
    (rule:∀(i j:Int) (t u:Tok) (s:Shared) (Q:Value->Shared->Prop) (E:Value->Shared->Prop),C i j->Q (.int (g i j) s.toks) { s with toks:=s.toks+1 }->wpAny (model X.prog X.w) X.A (f (.int i t) (.int j u)) Q E s) :
    OpR X f (rI C fun i j=>.int (g i j)):=by
  intro pins s σ H x y v u Q I rx ry h;obtain⟨i,j,rfl,rfl,hc,q⟩:=h;obtain⟨t,rfl⟩:=rx;obtain⟨t',rfl⟩:=ry;exact rule i j t t' s _ _ hc ⟨.int (g i j),H,I.tok _,⟨_,rfl⟩,q⟩
theorem opI0{f:Value->Value->Sem Value}{g:Int->Int->Int}
    (rule:∀(i j:Int) (t u:Tok) (s:Shared) (Q:Value->Shared->Prop) (E:Value->Shared->Prop),Q (.int (g i j) s.toks) { s with toks:=s.toks+1 }->wpAny (model X.prog X.w) X.A (f (.int i t) (.int j u)) Q E s) :
    OpR X f (rI0 fun i j=>.int (g i j)):=by
  intro pins s σ H x y v u Q I rx ry h;obtain⟨i,j,rfl,rfl,q⟩:=h;obtain⟨t,rfl⟩:=rx;obtain⟨t',rfl⟩:=ry;exact rule i j t t' s _ _ ⟨.int (g i j),H,I.tok _,⟨_,rfl⟩,q⟩
theorem opB0{f:Value->Value->Sem Value}{g:Int->Int->Bool}
    (rule:∀(i j:Int) (t u:Tok) (s:Shared) (Q:Value->Shared->Prop) (E:Value->Shared->Prop),Q (.bool (g i j)) s->wpAny (model X.prog X.w) X.A (f (.int i t) (.int j u)) Q E s) :
    OpR X f (rI0 fun i j=>.bl (g i j)):=by
  intro pins s σ H x y v u Q I rx ry h;obtain⟨i,j,rfl,rfl,q⟩:=h;obtain⟨t,rfl⟩:=rx;obtain⟨t',rfl⟩:=ry;exact rule i j t t' s _ _ ⟨.bl (g i j),H,I,rfl,q⟩
def CDiv(i j:Int):Prop:=0<j/\j<1073741824
def CPow(i j:Int):Prop:=0<=j/\j<=1000000/\i.natAbs<2^64
def CMul(i j:Int):Prop:=(-(2^64)<i/\i<2^64)\/(-(2^64)<j/\j<2^64)
theorem CMul.ok{i j:Int}(h:CMul i j):IntMulOk i j:=by
  rcases h with ⟨h1,h2⟩ | ⟨h1,h2⟩
  . exact .of_left (intBits_le_64 h1 h2)
  . exact .of_right (intBits_le_64 h1 h2)
theorem yn:OpR X (binaryOp .Add) (rI0 fun i j=>.int (i+j)):=opI0 fun _ _ _ _ _ _ _ q=>add_int q
theorem xr:OpR X (binaryOp .Sub) (rI0 fun i j=>.int (i-j)):=opI0 fun _ _ _ _ _ _ _ q=>sub_int q
theorem wu:OpR X (binaryOp .Mult) (rI CMul fun i j=>.int (i*j)):=opI fun _ _ _ _ _ _ _ hc q=>mul_int q hc.ok
theorem yx:OpR X (binaryOp .FloorDiv) (rI CDiv fun i j=>.int (i/j)):=opI fun i j _ _ _ _ _ hc q=>by
  have h1:(0:Int)<j:=hc.1;have h2:j<1073741824:=hc.2;exact floordiv_int (by omega) (by rw[Int.fdiv_eq_ediv_of_nonneg i (by omega)];exact q) (.inl (PyProof.noPylong_small (by omega)))
theorem ye:OpR X (binaryOp .Mod) (rI (fun _ j=>0<j) fun i j=>.int (i % j)):=opI fun i j _ _ _ _ _ hc q=>by
  have h1:(0:Int)<j:=hc;exact mod_int' (by omega) (by rw[Int.fmod_eq_emod_of_nonneg i (by omega)];exact q)
theorem rf:OpR X (binaryOp .Pow) (rI CPow fun i j=>.int (i^j.toNat)):=opI fun _ _ _ _ _ _ _ hc q=>pow_int_small hc.1 hc.2.1 hc.2.2 q
theorem unI{f:Value->Sem Value}{g:Int->Int}
    (rule:∀(i:Int) (t:Tok) (s:Shared) (Q:Value->Shared->Prop) (E:Value->Shared->Prop),Q (.int (g i) s.toks) { s with toks:=s.toks+1 }->wpAny (model X.prog X.w) X.A (f (.int i t)) Q E s) :
    UnR X f (rU fun i=>.int (g i)):=by
  intro pins s σ H x v Q I rx h;obtain⟨i,rfl,q⟩:=h;obtain⟨t,rfl⟩:=rx;exact rule i t s _ _ ⟨.int (g i),H,I.tok _,⟨_,rfl⟩,q⟩
theorem zbd:UnR X (unaryOp .USub) (rU fun i=>.int (-i)):=unI fun _ _ _ _ _ q=>neg_int q
end
def scal:V->V->Bool
  | .non,.non=>true | .non,.int _=>true | .int _,.non=>true | .non,.bl _=>true | .bl _,.non=>true | .non,.str _=>true | .str _,.non=>true
  | .int _,.int _=>true | .bl _,.bl _=>true | .str _,.str _=>true | .byt _,.byt _=>true
  | .int _,.str _=>true | .str _,.int _=>true | .bl _,.str _=>true | .str _,.bl _=>true
  | _,_=>false
def rEq:R2:=fun x y H Q=>scal x y=true/\Q (.bl (decide (x=y))) H
def rNe:R2:=fun x y H Q=>scal x y=true/\Q (.bl (!decide (x=y))) H
theorem zcq{i j:Int}:decide (V.int i=V.int j)=(i==j):=by
  rw[Bool.eq_iff_iff];simp
theorem zf5{i j:Bool}:decide (V.bl i=V.bl j)=(i==j):=by
  rw[Bool.eq_iff_iff];simp
theorem zcv{i j:Str}:decide (V.str i=V.str j)=(i==j):=by
  rw[Bool.eq_iff_iff];simp
theorem zcu{i j:Array UInt8}:decide (V.byt i=V.byt j)=(i.toList==j.toList):=by
  rw[Bool.eq_iff_iff];cases i;cases j;simp
section
variable{X:Cx}{a b c:Expr}{ta tb tc:TE}{pos:Pos}
theorem yj{pins:List (Addr×Obj)}{σ:St}{H:Hp}{s:Shared}{Q:VK}{k k':Bool}(I:Inv X pins σ H s)(q:Q (.bl k) H)(e:k=k'):EP X pins σ Q (.bool k') s:=by
  subst e;exact⟨.bl k,H,I,rfl,q⟩
theorem sv:OpR X (compareOp .Eq) rEq:=by
  intro pins s σ H x y v u Q I rx ry h;obtain⟨hs,q⟩:=h
  cases x with
  | non =>
    cases rx
    cases y with
    | non=>cases ry;exact PySem.EqNone.eq_none_none (yj I q (by simp))
    | bl j=>cases ry;exact PySem.EqNone.eq_none_bool (yj I q (by simp))
    | int j=>obtain⟨t',rfl⟩:=ry;exact PySem.EqNone.eq_none_int (yj I q (by simp))
    | str j=>obtain⟨t',rfl⟩:=ry;exact PySem.EqNone.eq_none_str (yj I q (by simp))
    | _=>exact absurd (show false=true from hs) Bool.false_ne_true
  | bl i =>
    cases rx
    cases y with
    | non=>cases ry;exact PySem.EqNone.eq_bool_none (yj I q (by simp))
    | bl j=>cases ry;exact eq_bool (yj I q zf5)
    | str j=>obtain⟨t',rfl⟩:=ry;exact PySem.EqMixed.eq_bool_str (yj I q (by simp))
    | _=>exact absurd (show false=true from hs) Bool.false_ne_true
  | int i =>
    obtain⟨t,rfl⟩:=rx
    cases y with
    | non=>cases ry;exact PySem.EqNone.eq_int_none (yj I q (by simp))
    | int j=>obtain⟨t',rfl⟩:=ry;exact eq_int (yj I q zcq)
    | str j=>obtain⟨t',rfl⟩:=ry;exact PySem.EqMixed.eq_int_str (yj I q (by simp))
    | _=>exact absurd (show false=true from hs) Bool.false_ne_true
  | str i =>
    obtain⟨t,rfl⟩:=rx
    cases y with
    | non=>cases ry;exact PySem.EqNone.eq_str_none (yj I q (by simp))
    | bl j=>cases ry;exact PySem.EqMixed.eq_str_bool (yj I q (by simp))
    | int j=>obtain⟨t',rfl⟩:=ry;exact PySem.EqMixed.eq_str_int (yj I q (by simp))
    | str j=>obtain⟨t',rfl⟩:=ry;exact eq_str (yj I q zcv)
    | _=>exact absurd (show false=true from hs) Bool.false_ne_true
  | byt i =>
    obtain⟨t,rfl⟩:=rx
    cases y with
    | byt j=>obtain⟨t',rfl⟩:=ry;exact PySem.W.eq_bytes (yj I q zcu)
    | _=>exact absurd (show false=true from hs) Bool.false_ne_true
  | _=>cases y <;> exact absurd (show false=true from hs) Bool.false_ne_true
theorem dq:OpR X (compareOp .NotEq) rNe:=by
  intro pins s σ H x y v u Q I rx ry h;obtain⟨hs,q⟩:=h
  cases x with
  | non =>
    cases rx
    cases y with
    | non=>cases ry;exact PySem.EqNone.ne_none_none (yj I q (by simp))
    | bl j=>cases ry;exact PySem.EqNone.ne_none_bool (yj I q (by simp))
    | int j=>obtain⟨t',rfl⟩:=ry;exact PySem.EqNone.ne_none_int (yj I q (by simp))
    | str j=>obtain⟨t',rfl⟩:=ry;exact PySem.EqNone.ne_none_str (yj I q (by simp))
    | _=>exact absurd (show false=true from hs) Bool.false_ne_true
  | bl i =>
    cases rx
    cases y with
    | non=>cases ry;exact PySem.EqNone.ne_bool_none (yj I q (by simp))
    | bl j=>cases ry;exact ne_bool (yj I q (congrArg not zf5))
    | str j=>obtain⟨t',rfl⟩:=ry;exact PySem.EqMixed.ne_bool_str (yj I q (by simp))
    | _=>exact absurd (show false=true from hs) Bool.false_ne_true
  | int i =>
    obtain⟨t,rfl⟩:=rx
    cases y with
    | non=>cases ry;exact PySem.EqNone.ne_int_none (yj I q (by simp))
    | int j=>obtain⟨t',rfl⟩:=ry;exact ne_int (yj I q (congrArg not zcq))
    | str j=>obtain⟨t',rfl⟩:=ry;exact PySem.EqMixed.ne_int_str (yj I q (by simp))
    | _=>exact absurd (show false=true from hs) Bool.false_ne_true
  | str i =>
    obtain⟨t,rfl⟩:=rx
    cases y with
    | non=>cases ry;exact PySem.EqNone.ne_str_none (yj I q (by simp))
    | bl j=>cases ry;exact PySem.EqMixed.ne_str_bool (yj I q (by simp))
    | int j=>obtain⟨t',rfl⟩:=ry;exact PySem.EqMixed.ne_str_int (yj I q (by simp))
    | str j=>obtain⟨t',rfl⟩:=ry;exact ne_str (yj I q (congrArg not zcv))
    | _=>exact absurd (show false=true from hs) Bool.false_ne_true
  | byt i =>
    obtain⟨t,rfl⟩:=rx
    cases y with
    | byt j=>obtain⟨t',rfl⟩:=ry;exact PySem.W.ne_bytes (yj I q (congrArg not zcu))
    | _=>exact absurd (show false=true from hs) Bool.false_ne_true
  | _=>cases y <;> exact absurd (show false=true from hs) Bool.false_ne_true
theorem lq:OpR X (compareOp .Lt) (rI0 fun i j=>.bl (decide (i<j))):=opB0 fun _ _ _ _ _ _ _ q=>lt_int q
theorem dy:OpR X (compareOp .LtE) (rI0 fun i j=>.bl (decide (i<=j))):=opB0 fun _ _ _ _ _ _ _ q=>le_int q
theorem zes:OpR X (compareOp .Gt) (rI0 fun i j=>.bl (decide (j<i))):=opB0 fun _ _ _ _ _ _ _ q=>gt_int q
theorem op_isN:OpR X (compareOp .Is) (fun x y H Q=>y=.non/\Q (.bl (decide (x=.non))) H):=by
  intro pins s σ H x y v u Q I rx ry h;obtain⟨rfl,q⟩:=h;cases ry;refine is_none_gen (yj I q ?_)
  cases x <;> first
    | (cases rx;rfl)
    | (obtain⟨t,rfl⟩:=rx;rfl)
theorem cq:OpR X (compareOp .IsNot) (fun x y H Q=>y=.non/\Q (.bl (!decide (x=.non))) H):=by
  intro pins s σ H x y v u Q I rx ry h;obtain⟨rfl,q⟩:=h;cases ry;refine isnot_none_gen (yj I q ?_)
  cases x <;> first
    | (cases rx;rfl)
    | (obtain⟨t,rfl⟩:=rx;rfl)
theorem OpR.or{f:Value->Value->Sem Value}{r r':R2}(h:OpR X f r)(h':OpR X f r'):OpR X f (fun x y H Q=>r x y H Q\/r' x y H Q):=by
  intro pins s σ H x y v u Q I rx ry q
  rcases q with q | q
  . exact h pins s σ H x y v u Q I rx ry q
  . exact h' pins s σ H x y v u Q I rx ry q
theorem yk(b:Expr){op:CmpOp}(h:op≠.In:=by decide)(h2:op≠.NotIn:=by decide):behindInMarks op b=false:=by
  have e1:(op==CmpOp.In)=false:=by cases op <;> first | rfl | exact absurd rfl h
  have e2:(op==CmpOp.NotIn)=false:=by cases op <;> first | rfl | exact absurd rfl h2
  cases b <;> simp[behindInMarks,e1,e2]
theorem tw{op:CmpOp}{r:R2}(ho:OpR X (compareOp op) r)(ha:PE X a ta)(hb:PE X b tb)(hm:behindInMarks op b=false):PE X (.Compare a [op] [b] pos) (tOp r ta tb):=by
  intro pins s σ H Q I h;exact wpAny_Compare1 (binT ha hb I h fun v u s2 x y H2 I2 rx ry q=>ho pins s2 σ H2 x y v u Q I2 rx ry q) hm
def zeg(t:TE):TT:=fun σ H Q=>t σ H fun x H'=>∃k,x=.bl k/\Q k H'
theorem yp{op:CmpOp}{r:R2}(ho:OpR X (compareOp op) r)(ha:PE X a ta)(hb:PE X b tb)(hm:behindInMarks op b=false):PT X (.Compare a [op] [b] pos) (zeg (tOp r ta tb)):=by
  intro pins s σ H Q I h
  refine wpAny_isTrue_Compare1 (thn (ha pins s σ H _ I h) fun v s1 ⟨x,H1,I1,r1,q1⟩=>thn (hb pins s1 σ H1 _ I1 q1) fun u s2 ⟨y,H2,I2,r2,q2⟩ =>
    thn (ho pins s2 σ H2 x y v u _ I2 r1 r2 q2) fun c s3 ⟨z,H3,I3,r3,k,e,q3⟩ => ?_) hm
  subst e;cases r3;exact wpAny_truthy_bool ⟨H3,I3,q3⟩
def az(r r':R2)(ta tb tc:TE):TE:=fun σ H Q=>ta σ H fun x H1=>tb σ H1 fun y H2=>r x y H2 fun z H3=>∃k,z=.bl k /\
  (if k=true then tc σ H3 fun w' H4=>r' y w' H4 Q else Q (.bl false) H3)
theorem zh1{op op':CmpOp}{r r':R2}(ho:OpR X (compareOp op) r)(ho':OpR X (compareOp op') r')(ha:PE X a ta)(hb:PE X b tb)(hc:PE X c tc)
    (hm:lastMarks [op,op'] [b,c]=false:=by with_unfolding_all rfl):PE X (.Compare a [op,op'] [b,c] pos) (az r r' ta tb tc):=by
  intro pins s σ H Q I h
  refine Compare_chain (thn (ha pins s σ H _ I h) fun v s1 ⟨x,H1,I1,r1,q1⟩=>chain_link (thn (hb pins s1 σ H1 _ I1 q1) fun u s2 ⟨y,H2,I2,r2,q2⟩ =>
    thn (ho pins s2 σ H2 x y v u _ I2 r1 r2 q2) fun d s3 ⟨z,H3,I3,r3,k,e,q3⟩ => ?_)) hm
  subst e;cases r3;refine wpAny_truthy_bool ?_
  cases k with
  | false=>exact ite_ff ⟨.bl false,H3,I3,rfl,q3⟩
  | true=>exact ite_tt (chain_last (thn (hc pins s3 σ H3 _ I3 q3) fun w' s4 ⟨z',H4,I4,r4,q4⟩=>ho' pins s4 σ H4 y z' u w' Q I4 r2 r4 q4))
theorem za0{op op':CmpOp}{r r':R2}(ho:OpR X (compareOp op) r)(ho':OpR X (compareOp op') r')(ha:PE X a ta)(hb:PE X b tb)(hc:PE X c tc)
    (hm:lastMarks [op,op'] [b,c]=false:=by with_unfolding_all rfl):PT X (.Compare a [op,op'] [b,c] pos) (zeg (az r r' ta tb tc)):=by
  intro pins s σ H Q I h
  refine isTrue_chain (thn (ha pins s σ H _ I h) fun v s1 ⟨x,H1,I1,r1,q1⟩=>test_link (thn (hb pins s1 σ H1 _ I1 q1) fun u s2 ⟨y,H2,I2,r2,q2⟩ =>
    thn (ho pins s2 σ H2 x y v u _ I2 r1 r2 q2) fun d s3 ⟨z,H3,I3,r3,k,e,q3⟩ => ?_)) hm
  subst e;cases r3;refine wpAny_truthy_bool ?_
  cases k with
  | false =>
    obtain⟨k',e',q'⟩:=q3;cases e';exact ite_ff ⟨H3,I3,q'⟩
  | true =>
    refine ite_tt (test_last (thn (hc pins s3 σ H3 _ I3 q3) fun w' s4 ⟨z',H4,I4,r4,q4⟩=>thn (ho' pins s4 σ H4 y z' u w' _ I4 r2 r4 q4) fun d' s5 ⟨z2,H5,I5,r5,k2,e2,q5⟩ => ?_));subst e2;cases r5;exact wpAny_truthy_bool ⟨H5,I5,q5⟩
theorem nv:(sizeLine:Nat)<2^63:=by rw[sizeLine_eq];decide
theorem d0:OpR X (binaryOp .Add) (fun x y H Q=>∃i j,x=.str i/\y=.str j/\i.length+j.length<=sizeLine/\Q (.str (i++j)) H):=by
  intro pins s σ H x y v u Q I rx ry h;obtain⟨i,j,rfl,rfl,hz,q⟩:=h;obtain⟨t,rfl⟩:=rx;obtain⟨t',rfl⟩:=ry;exact add_str (fun t' tk=>⟨.str (i++j),H,I.tok _,⟨_,rfl⟩,q⟩) hz
theorem re{x:V}{us:List Value}(r:Vals [x] us):∃u,us=[u]/\RelV x u:=by
  cases r with
  | cons r1 r2=>cases r2;exact⟨_,rfl,r1⟩
theorem vals2{x y:V}{us:List Value}(r:Vals [x,y] us):∃u w',us=[u,w']/\RelV x u/\RelV y w':=by
  cases r with
  | cons r1 r2 =>
    cases r2 with
    | cons r3 r4=>cases r4;exact⟨_,_,rfl,r1,r3⟩
theorem zh7:CallR X (.builtin "abs") (fun xs H Q=>∃i,xs=[.int i]/\Q (.int (if i<0 then -i else i)) H):=by
  intro pins s σ H xs us Q I r h;obtain⟨i,rfl,q⟩:=h;obtain⟨u,rfl,t,rfl⟩:=re r;exact call_abs_int fun u tk=>⟨.int (if i<0 then -i else i),H,I.tok _,⟨_,rfl⟩,q⟩
theorem zg2(hc:X.calm=true):CallR X (.builtin "max") (fun xs H Q=>∃i j,xs=[.int i,.int j]/\Q (.int (if j > i then j else i)) H):=by
  intro pins s σ H xs us Q I r h;obtain⟨i,j,rfl,q⟩:=h;obtain⟨u,w',rfl,⟨t,rfl⟩,⟨t',rfl⟩⟩:=vals2 r;refine max_two_ints (I.ok.hd hc) fun h' tk k=>⟨_,H,I.kept k,?_,q⟩
  by_cases hj:j > i
  . rw[if_pos hj,if_pos hj];exact⟨_,rfl⟩
  . rw[if_neg hj,if_neg hj];exact⟨_,rfl⟩
theorem zgp(hc:X.calm=true):CallR X (.builtin "min") (fun xs H Q=>∃i j,xs=[.int i,.int j]/\Q (.int (if j<i then j else i)) H):=by
  intro pins s σ H xs us Q I r h;obtain⟨i,j,rfl,q⟩:=h;obtain⟨u,w',rfl,⟨t,rfl⟩,⟨t',rfl⟩⟩:=vals2 r;refine min_two_ints (I.ok.hd hc) fun h' tk k=>⟨_,H,I.kept k,?_,q⟩
  by_cases hj:j<i
  . rw[if_pos hj,if_pos hj];exact⟨_,rfl⟩
  . rw[if_neg hj,if_neg hj];exact⟨_,rfl⟩
theorem zgx:CallR X (.type "int") (fun xs H Q=>(∃i,xs=[.int i]/\Q (.int i) H)\/∃k,xs=[.bl k]/\Q (.int (if k then 1 else 0)) H):=by
  intro pins s σ H xs us Q I r h
  rcases h with ⟨i,rfl,q⟩ | ⟨k,rfl,q⟩
  . obtain⟨u,rfl,t,rfl⟩:=re r
    exact call_int_int ⟨.int i,H,I,⟨_,rfl⟩,q⟩
  . obtain⟨u,rfl,r1⟩:=re r
    cases r1;exact call_int_bool ⟨.int (if k then 1 else 0),H,I.tok _,⟨_,rfl⟩,q⟩
end
end L2
namespace L2
open PySem PySem.Spec PyProof.Rows
structure ObjM(h:Heap)(x dx C:Addr)(mA:Str->Option Value):Prop where
  obj:h.get? x=some (PySem.W.instObj C dx)
  ns:h.Ns1 dx mA
  ne:dx≠x
theorem zfh{h:Heap}{dx:Addr}{mA:Str->Option Value}(n:h.Ns1 dx mA):∃od,h.get? dx=some od/\∀name,PySem.W.lookIn name od=some (mA name):=by
  obtain⟨o,es,ep,ho,hd,hk,_,hm⟩:=n;refine⟨o,ho,fun name => ?_⟩;have e:=hm name;unfold nsFind findBy at e;rw[<-Array.find?_toList]at e;unfold PySem.W.lookIn;rw[hd];dsimp only
  split
  . rename_i y q
    rw[q]at e;exact congrArg some e
  . rename_i q
    rw[q]at e
    have a:es.toList.any (·.refKey)=false:=by
      rw[List.any_eq_false];intro y hy;obtain⟨z,t,hkey⟩:=hk y (Array.mem_toList_iff.mp hy);simp[DictEntry.refKey,hkey]
    have a':¬es.toList.any (·.refKey)=true:=by rw[a];exact Bool.false_ne_true
    rw[if_neg a'];exact congrArg some e
theorem ObjM.look{h:Heap}{x dx C:Addr}{mA:Str->Option Value}(I:ObjM h x dx C mA):∃od,PySem.W.InstAt h x (PySem.W.instObj C dx) C (some od)/\∀name,PySem.W.lookIn name od=some (mA name) :=
  let ⟨od,ho,hl⟩:=zfh I.ns
  ⟨od,⟨I.obj,rfl,rfl,ho⟩,hl⟩
section
variable{prog:Program}{w:World}{A:Around}{E:Value->Shared->Prop}{s:Shared}{K:Fg}{x dx C f:Addr}{mA:Str->Option Value}{name:Str}{v:Value}
end
theorem RelO.some_of{v:V}{o:Option Value}(r:RelO (some v) o):∃u,o=some u/\RelV v u:=by
  cases o with
  | none=>exact(show False from r).elim
  | some u=>exact⟨u,rfl,r⟩
section
variable{P:Program}{w:World}{H H':Hp}{h h':Heap}{a C dx:Addr}{fs fs':List (Str×V)}
theorem zj9(hok:HOk P w H h)(e:H a=some (.ins C dx fs)):∃mA,ObjM h a dx C mA/\(∀f,RelO (fs.lookup f) (mA f))/\PySem.Within mA (fs.map (·.1))/\fs.length<=1000/\H dx=some (.own a):=by
  obtain⟨d,z,ne,ob,mA,n,r,q⟩:=(show ObjOk P w H h a (.ins C dx fs) from hok a _ e);exact⟨mA,⟨ob,n,ne⟩,r,q,z,d⟩
end
structure Cls(K:Fg)(C:Addr):Prop where
  pg:PySem.W.plainGet K C Str.empty=true
  hd:PySem.W.hasDictIn K C=true
  po:PySem.W.plainOver K C=true
  sa:PySem.W.findIn K (.ref C) "__setattr__" = some (some (.builtin "object.__setattr__"))
theorem Cls.get{K:Fg}{C:Addr}(c:Cls K C)(f:Str):PySem.W.plainGet K C f=true:=c.pg
section
variable{X:Cx}{pins:List (Addr×Obj)}{σ:St}{H:Hp}{s:Shared}{a C dx:Addr}{fs:List (Str×V)}{f:Str}{v:V}{A:Around}{E:Value->Shared->Prop}
theorem Inv.made(I:Inv X pins σ H s):Inv X pins σ (upd (upd H s.heap.objs.size (.own (s.heap.objs.size+1))) (s.heap.objs.size+1) (.ins C s.heap.objs.size []))
    { s with heap:=(s.heap.push PySem.W.emptyDict).push (PySem.W.instObj C s.heap.objs.size) }:=by
  have e1:(s.heap.push PySem.W.emptyDict).get? s.heap.objs.size=some PySem.W.emptyDict:=Heap.get?_push_size s.heap rfl
  have e2:((s.heap.push PySem.W.emptyDict).push (PySem.W.instObj C s.heap.objs.size)).get? (s.heap.objs.size+1)=some (PySem.W.instObj C s.heap.objs.size):=by
    have:=Heap.get?_push_size (s.heap.push PySem.W.emptyDict) (o:=PySem.W.instObj C s.heap.objs.size) rfl
    rwa [Heap.size_push]at this
  have e3:(s.heap.push PySem.W.emptyDict).Ns s.heap.objs.size (fun _=>none):=⟨PySem.W.emptyDict,#[],_,e1,rfl,(fun e he=>absurd he (by simp)),fun _=>rfl⟩;have I1:=I.laid (a:=s.heap.objs.size) (o:=.own (s.heap.objs.size+1)) (h':=s.heap.push PySem.W.emptyDict) (t':=s.toks) (fun b u q=>Heap.get?_push_of_some _ q) (Zm _) ⟨_,e1⟩;refine I1.laid (a:=s.heap.objs.size+1) (o:=.ins C s.heap.objs.size []) (t':=s.toks) (fun b u q=>Heap.get?_push_of_some _ q) (Nat.le_of_eq (Heap.size_push _ _)) ?_;have ne:s.heap.objs.size≠s.heap.objs.size+1:=Zs (Yj _);refine⟨by rw[zp ne,zc],ZE _,ne,e2,fun _=>none,(Heap.Ns1.of_empty e3).at fun o q=>Heap.get?_push_of_some _ q,fun _=>True.intro,fun y hy=>absurd rfl hy⟩
end
section
variable{X:Cx}{o e value:Expr}{f:Str}{pos pos' tpos:Pos}{ta tv:TE}
end
section
variable{X:Cx}{pins:List (Addr×Obj)}{σ:St}{H:Hp}{s:Shared}{A:Around}{E:Value->Shared->Prop}{Q:Value->Shared->Prop}{c:Value}{b:Bool}
inductive TyOf (K:Fg) (H:Hp):V->Value->Prop where
  | non:TyOf K H .non (.type "NoneType")
  | bl (x:Bool):TyOf K H (.bl x) (.type "bool")
  | int (i:Int):TyOf K H (.int i) (.type "int")
  | str (x:Str):TyOf K H (.str x) (.type "str")
  | flt (x:UInt64):TyOf K H (.flt x) (.type "float")
  | lst {a:Addr} {xs:List V} (e:H a=some (.lst xs)):TyOf K H (.ref a) (.type "list")
  | frz {a:Addr} {o:Obj} {xs:List V} (e:H a=some (.frz o (.lst xs))):TyOf K H (.ref a) (.type "list")
  | tup {a:Addr} {xs:List V} (e:H a=some (.tup xs)):TyOf K H (.ref a) (.type "tuple")
  | dK {a:Addr} {kvs:List (Key×V)} (e:H a=some (.dK kvs)):TyOf K H (.ref a) (.type "dict")
  | dT {a:Addr} {kvs:List (List Key×V)} (e:H a=some (.dT kvs)):TyOf K H (.ref a) (.type "dict")
  | ins {a C dx:Addr} {fs:List (Str×V)} (e:H a=some (.ins C dx fs)) (cl:Cls K C) (ha:PySem.W.findIn K (.ref C) "__class__" = some (some (.builtin "object.__class__")))
      (hn:PySem.W.specialIn K (.builtin "object.__class__") "__get__" = some (some (.builtin "getset_descriptor.__get__"))) (htk:PySem.W.takesIn K (.builtin "object.__class__")=some true)
      (hm:PySem.W.mroIn K C (.type "object")=some true):TyOf K H (.ref a) (.ref C)
theorem zg9{x:V}{u t:Value}(I:Inv X pins σ H s)(rx:RelV x u)(ty:TyOf X.K H x t)(e:PySem.W.kitOne X.K t c=some b)(h:∀tk,Q (.bool b) { s with toks:=tk }) :
    wpAny (model X.prog X.w) A (call (.builtin "isinstance") [u,c]) Q E s:=by
  cases ty with
  | non=>cases (show u=Value.none from rx);exact PySem.W.kia_one PySem.W.kitx_none I.kIn True.intro e (fun z=>nomatch z) h
  | bl y=>cases (show u=Value.bool y from rx);exact PySem.W.kia_one PySem.W.kitx_bool I.kIn True.intro e (fun z=>nomatch z) h
  | int i=>obtain⟨t,q⟩:=(show ∃t,u=Value.int i t from rx);cases q;exact PySem.W.kia_one PySem.W.kitx_int I.kIn True.intro e (fun z=>nomatch z) h
  | str y=>obtain⟨t,q⟩:=(show ∃t,u=Value.str y t from rx);cases q;exact PySem.W.kia_one PySem.W.kitx_str I.kIn True.intro e (fun z=>nomatch z) h
  | flt y=>obtain⟨t,q⟩:=(show ∃t,u=Value.float y t from rx);cases q;exact PySem.W.kia_one PySem.W.kitx_float I.kIn True.intro e (fun z=>nomatch z) h
  | @lst a xs ea =>
    cases (show u=Value.ref a from rx);obtain⟨_,_,n,_,h1⟩:=(show ObjOk X.prog X.w H s.heap a (.lst xs) from I.hok a _ ea);exact PySem.W.kia_one PySem.W.kitx_list I.kIn ⟨_,h1,rfl⟩ e (fun z=>nomatch z) h
  | @frz a ob xs ea =>
    cases (show u=Value.ref a from rx);obtain⟨_,_,_,n,_,h1⟩:=(show ObjOk X.prog X.w H s.heap a (.frz ob (.lst xs)) from I.hok a _ ea);exact PySem.W.kia_one PySem.W.kitx_list I.kIn ⟨_,h1,rfl⟩ e (fun z=>nomatch z) h
  | @tup a xs ea =>
    cases (show u=Value.ref a from rx);obtain⟨_,_,_,p⟩:=(show ObjOk X.prog X.w H s.heap a (.tup xs) from I.hok a _ ea);obtain⟨o,h1,h2,_⟩:=p;exact PySem.W.kia_one PySem.W.kitx_tuple I.kIn ⟨o,h1,h2⟩ e (fun z=>nomatch z) h
  | @dK a kvs ea =>
    cases (show u=Value.ref a from rx);obtain⟨_,_,vs,_,p⟩:=(show ObjOk X.prog X.w H s.heap a (.dK kvs) from I.hok a _ ea);obtain⟨o,es,ep,h1,h2,_⟩:=p;exact PySem.W.kia_one PySem.W.kitx_dict I.kIn ⟨o,h1,h2.1⟩ e (fun z=>nomatch z) h
  | @dT a kvs ea =>
    cases (show u=Value.ref a from rx);obtain⟨_,_,xs,_,o,es,ep,h1,h2,_⟩:=(show ObjOk X.prog X.w H s.heap a (.dT kvs) from I.hok a _ ea);exact PySem.W.kia_one PySem.W.kitx_dict I.kIn ⟨o,h1,h2.1⟩ e (fun z=>nomatch z) h
  | @ins a C dx fs ea cl ha hn htk hm =>
    cases (show u=Value.ref a from rx);obtain⟨mA,O,_⟩:=zj9 I.hok ea;obtain⟨od,J,_⟩:=O.look;exact PySem.W.kia_one (PySem.W.kitx_own (cl.get _) cl.hd ha hn htk hm) I.kIn J e (fun z=>nomatch z) h
end
end L2
namespace L2
open PySem PySem.Spec PyProof.Rows
structure Room(k:Nat)(A:Around):Prop where
  hd:A.handled=none
  dp:A.depth+3*k+5<recursionLimit
  un:A.units+16*k+200<cLine
theorem Room.mono{j k:Nat}{A:Around}(r:Room k A)(h:j<=k):Room j A:=⟨r.hd,by have:=r.dp;omega,by have:=r.un;omega⟩
theorem Room.deeper{k:Nat}{A:Around}(r:Room (k+1) A)(env:Env):Room k (A.deeper env) :=
  ⟨r.hd,by have:=r.dp;show A.depth+1+3*k+5<_;omega,by have:=r.un;show A.units+3+16*k+200<_;omega⟩
theorem Room.in1{k:Nat}{A:Around}(r:Room (k+1) A):Room k A.in1 :=
  ⟨r.hd,by have:=r.dp;show A.depth+3*k+5<_;omega,by have:=r.un;show A.units+1+16*k+200<_;omega⟩
theorem zd8{A:Around}{C:Addr}{us:List Value}{kw:List (Str×Value)}:(A.under (.builtin "type.__call__" ⟨.ref C::us,kw⟩)).depth=A.depth+1:=by
  first | rfl | simp[Around.under,Code.weight,Code.isCreation,Code.isGuard,Code.isCaller,Code.frames,Code.isFrame,guardIds]
theorem ze1{A:Around}{C:Addr}{us:List Value}{kw:List (Str×Value)}:(A.under (.builtin "type.__call__" ⟨.ref C::us,kw⟩)).units=A.units+1:=by
  first | rfl | simp[Around.under,Code.cUnits,Code.frames,Code.isFrame]
theorem Room.make{k:Nat}{A:Around}(r:Room (k+1) A)(C:Addr)(us:List Value)(kw:List (Str×Value)):Room k (A.under (.builtin "type.__call__" ⟨.ref C::us,kw⟩)) :=
  ⟨r.hd,by have:=r.dp;rw[zd8];omega,by have:=r.un;rw[ze1];omega⟩
theorem Room.depth{k:Nat}{A:Around}(r:Room k A):A.depth<recursionLimit:=by have:=r.dp;omega
theorem Room.units{k:Nat}{A:Around}(r:Room k A):A.units+64<cLine:=by have:=r.un;omega
def tNil:TA:=fun _ H Q=>Q [] H
def zea(ta:TE)(tr:TA):TA:=fun σ H Q=>ta σ H fun x H1=>tr σ H1 fun xs H2=>Q (x::xs) H2
section
variable{X:Cx}{e:Expr}{es:List Expr}{te:TE}{t:TA}{pos:Pos}
theorem zb:PA X [] tNil:=fun _ _ _ _ H Q I h=>Calls.spliced_nil ⟨[],H,I,.nil,h⟩
theorem za(ha:PE X e te)(hr:PA X es t)(hs:starEach (e::es) X.env=(false,eval e X.env)::starEach es X.env:=by rfl):PA X (e::es) (zea te t):=by
  intro pos pins s σ H Q I h;rw[hs]
  show wpAny _ _ (spliced ((false,eval e X.env)::backTo pos (starEach es X.env))) _ _ s
  refine Calls.spliced_cons (thn (ha pins s σ H _ I h) fun u s1 ⟨x,H1,I1,r1,q1⟩ => ?_);exact thn (hr pos pins s1 σ H1 _ I1 q1) fun us s2 ⟨xs,H2,I2,r2,q2⟩=>⟨x::xs,H2,I2,.cons r1 r2,q2⟩
def tTup(t:TA):TE:=fun σ H Q=>t σ H fun xs H1=>xs.length<=sizeLine/\∀p,H1 p=none->Q (.ref p) (upd H1 p (.tup xs))
def tLst(t:TA):TE:=fun σ H Q=>t σ H fun xs H1=>xs.length<=sizeLine/\∀p,H1 p=none->Q (.ref p) (upd H1 p (.lst xs))
theorem y6{x1}(h:PA X es t):PE X (.Tuple es x1 pos) (tTup t):=by
  intro pins s σ H Q I hq;refine wpAny_Tuple_spliced (thn (h pos pins s σ H _ I hq) fun us s1 ⟨xs,H1,I1,r,z,q⟩=>⟨by rw[<-r.length];exact z,?_⟩);have hf:H1 s1.heap.objs.size=none:=I1.hok.fresh (Zm _);refine⟨.ref s1.heap.objs.size,upd H1 s1.heap.objs.size (.tup xs),I1.laid (t':=s1.toks) (fun b u e=>Heap.get?_push_of_some _ e) (Zm _) ?_,rfl,q _ hf⟩;exact⟨z,us,r,⟨_,Heap.get?_push_size _ rfl,rfl,_,rfl,rfl⟩⟩
theorem xp(h:PA X es t):PE X (.List es pos) (tLst t):=by
  intro pins s σ H Q I hq;refine wpAny_List_spliced (thn (h pos pins s σ H _ I hq) fun us s1 ⟨xs,H1,I1,r,z,q⟩=>⟨by rw[<-r.length];exact z,?_⟩);have hf:H1 s1.heap.objs.size=none:=I1.hok.fresh (Zm _);refine⟨.ref s1.heap.objs.size,upd H1 s1.heap.objs.size (.lst xs),I1.laid (t':=s1.toks) (fun b u e=>Heap.get?_push_of_some _ e) (Zm _) ?_,rfl,q _ hf⟩;exact⟨z,us,0,r,Heap.get?_push_size _ rfl⟩
end
abbrev Sp:=List V->Hp->VK->XK->Prop
abbrev CXT:=List Env->Hp->Shared->XK->Value->Shared->Prop
structure Env0(P:Program)(w:World)(K:Fg)(mg:Str->Option Value)(base:Heap)(A:Around)(outer:List Env)(s:Shared)(H:Hp):Prop where
  frames:A.frames=some outer
  mod:Mod K mg base
  bs:∀b o,base.get? b=some o->s.heap.get? b=some o/\H b=none
  bsz:base.objs.size<=s.heap.objs.size
  funs:s.heap.FunFrames base outer
  frf:∀b∈frs outer,H b=none
  hok:HOk P w H s.heap
  bare:AllBare s.gens
def CE(outer:List Env)(P:Program)(w:World)(H:Hp)(s:Shared)(Q:VK)(u:Value)(s':Shared):Prop :=
  ∃v H',s'.os=s.os/\AllBare s'.gens/\Un (frs outer) [] H H' s.heap s'.heap/\HOk P w H' s'.heap/\RelV v u/\Q v H'
def CR(CX:CXT)(outer:List Env)(P:Program)(w:World)(H:Hp)(s:Shared)(Q:VK)(E:XK)(r:Result)(s':Shared):Prop :=
  match r with
  | .ok (.ret u)=>CE outer P w H s Q u s'
  | .ok _=>False
  | .error e=>CX outer H s E e s'
structure FnOk(P:Program)(w:World)(K:Fg)(mg:Str->Option Value)(base:Heap)(CX:CXT)(k:Nat)(f:Addr)(fd:FuncData)(ps:List Str)(sp:Sp):Prop where
  len:∀vs H Q E,sp vs H Q E->vs.length=ps.length
  run:∀(A:Around) (outer:List Env) (s:Shared) (H:Hp) (args:Args) (us:List Value) (vs:List V) (Q:VK) (E:XK),Room k A->Env0 P w K mg base A outer s H->BindsTo s fd args (ps.zip us)->Vals vs us->sp vs H Q E ->
    codeAny (model P w) A (.call (.ref f) args) (CR CX outer P w H s Q E) s
theorem FnOk.mono{P:Program}{w:World}{K:Fg}{mg:Str->Option Value}{base:Heap}{CX:CXT}{j k:Nat}{f:Addr}{fd:FuncData}{ps:List Str}{sp:Sp}(F:FnOk P w K mg base CX j f fd ps sp)(h:j<=k) :
    FnOk P w K mg base CX k f fd ps sp:=⟨F.len,fun A outer s H args us vs Q E hr=>F.run A outer s H args us vs Q E (hr.mono h)⟩
theorem FnOk.imp{P:Program}{w:World}{K:Fg}{mg:Str->Option Value}{base:Heap}{CX:CXT}{k:Nat}{f:Addr}{fd:FuncData}{ps:List Str}{sp sp':Sp}(F:FnOk P w K mg base CX k f fd ps sp)
    (h:∀vs H Q E,sp' vs H Q E->sp vs H Q E):FnOk P w K mg base CX k f fd ps sp' :=
  ⟨fun vs H Q E q=>F.len vs H Q E (h _ _ _ _ q),fun A outer s H args us vs Q E hr he hb hv hs=>F.run A outer s H args us vs Q E hr he hb hv (h _ _ _ _ hs)⟩
theorem Env0.make{P:Program}{w:World}{K:Fg}{mg:Str->Option Value}{base:Heap}{A:Around}{outer:List Env}{s:Shared}{H:Hp}(e:Env0 P w K mg base A outer s H)(C:Addr)(us:List Value)(kw:List (Str×Value)) :
    Env0 P w K mg base (A.under (.builtin "type.__call__" ⟨.ref C::us,kw⟩)) outer s H:=⟨by first | exact e.frames | (simpa[Around.under,Code.envs,Code.isFrame,pushEnvs] using e.frames),e.mod,e.bs,e.bsz,e.funs,e.frf,e.hok,e.bare⟩
theorem Env0.in1{P:Program}{w:World}{K:Fg}{mg:Str->Option Value}{base:Heap}{A:Around}{outer:List Env}{s:Shared}{H:Hp}(e:Env0 P w K mg base A outer s H) :
    Env0 P w K mg base A.in1 outer s H:=⟨e.frames,e.mod,e.bs,e.bsz,e.funs,e.frf,e.hok,e.bare⟩
section
variable{X:Cx}{pins:List (Addr×Obj)}{σ:St}{H:Hp}{s s':Shared}
theorem Inv.env0(I:Inv X pins σ H s):Env0 X.prog X.w X.K X.mg X.base X.A X.stack s H :=
  ⟨I.ok.frames,I.ok.mod,I.bs,Zd I.ok.bsz I.sz,I.stack,I.stkFree,I.hok,I.bare⟩
theorem Inv.after{Q:VK}{u:Value}(I:Inv X pins σ H s)(h:CE X.stack X.prog X.w H s Q u s'):EP X pins σ Q u s':=by
  obtain⟨v,H',os,bare,un,hok,r,q⟩:=h;obtain⟨hh,g,d,t,os'⟩:=s';obtain rfl:os'=s.os:=os;exact⟨v,H',I.call (h':=hh) (g':=g) (d':=d) (t':=t) (ch:=[]) un hok bare (fun b z=>absurd z (by simp)),r,q⟩
end
def aw(sp:Sp)(dvs:List V)(E:XK)(t:TA):TE:=fun σ H Q=>t σ H fun vs H1=>sp (vs++dvs) H1 Q E
def Binds(K:Fg)(fd:FuncData)(ps:List Str)(ds:List Value):Prop :=
  ∀(s:Shared) (us:List Value),K.In s.heap->(us++ds).length=ps.length->BindsTo s fd ⟨us,[]⟩ (ps.zip (us++ds))
theorem Binds.all{K:Fg}{fd:FuncData}{ps:List Str}(h:∀us:List Value,us.length=ps.length->bindArgs fd ⟨us,[]⟩=pure (ps.zip us)):Binds K fd ps []:=fun s us _ hl=>by
  rw[Yg]at hl ⊢;exact .of_eq (h us hl)
def ik(CX:CXT)(X:Cx)(E:XK):Prop:=∀(pins:List (Addr×Obj)) (σ:St) (H:Hp) (s:Shared) (e:Value) (s':Shared),Inv X pins σ H s->CX X.stack H s E e s'->X.xe e s'
section
variable{X:Cx}{CX:CXT}{k:Nat}{f C:Addr}{fd:FuncData}{ps:List Str}{sp:Sp}{dvs:List V}{ds:List Value}{E:XK}{x m:Str}{p pos apos:Pos}{e o:Expr}{es:List Expr}{ta:TE}{t:TA}
theorem run_fn{pins:List (Addr×Obj)}{σ:St}{H:Hp}{s:Shared}{Q:VK}{us:List Value}{vs:List V}(F:FnOk X.prog X.w X.K X.mg X.base CX k f fd ps sp)(hr:Room k X.A)(hb:Binds X.K fd ps ds)(hd:Vals dvs ds)(hx:ik CX X E)
    (I:Inv X pins σ H s) (r:Vals vs us) (h:sp (vs++dvs) H Q E):wpAny (model X.prog X.w) X.A (call (.ref f) us) (EP X pins σ Q) X.xe s:=by
  have r2:Vals (vs++dvs) (us++ds):=r.append hd;have hl:(us++ds).length=ps.length:=by rw[<-r2.length];exact F.len _ _ _ _ h
  refine wpAny_call (codeAny_mono (F.run X.A X.stack s H ⟨us,[]⟩ (us++ds) (vs++dvs) Q E hr I.env0 (hb s us I.kIn hl) r2 h) fun r s' hq => ?_)
  cases r with
  | error e=>exact hx pins σ H s e s' I hq
  | ok fl =>
    cases fl with
    | ret u=>exact I.after hq
    | next=>exact False.elim hq
    | brk=>exact False.elim hq
    | cont=>exact False.elim hq
theorem zdu(F:FnOk X.prog X.w X.K X.mg X.base CX k f fd ps sp)(hr:Room k X.A)(hg:Gl X x)(hm:X.mg x=some (.ref f))(hk:PySem.W.keepIn X.K (.ref f)=true)(hb:Binds X.K fd ps ds)(hd:Vals dvs ds)(hx:ik CX X E)
    (ha:PA X (e::es) t) (hdb:(x==("__debug__" : Str))=false:=by decide) (he:starEach (e::es) X.env=(false,eval e X.env)::starEach es X.env:=by rfl) (hpl:(backTo pos (starEach es X.env)).any (·.1)=false:=by rfl) :
    PE X (.Call (.Name x p) (e::es) [] pos) (aw sp dvs E t):=by
  intro pins s σ H Q I h;refine wpAny_Call_Name_kw (ir I hg hm ?_ hdb);refine PySem.W.callWith_K (h₀:=X.base) I.ok.mod.kin hk (thn (ha pos pins s σ H _ I h) fun us s1 ⟨vs,H1,I1,r,q⟩=>⟨I1.kIn,?_⟩) he hpl;exact run_fn F hr hb hd hx I1 r q
end
def PK(X:Cx)(kws:List Keyword)(t:TA):Prop :=
  ∀(pos:Pos) (pins:List (Addr×Obj)) (s:Shared) (σ:St) (H:Hp) (Q:List V->Hp->Prop),Inv X pins σ H s->t σ H Q->wpAny (model X.prog X.w) X.A (evalAll ((backToKw pos (keywordEach kws X.env)).map (·.2))) (AP X pins σ Q) X.xe s
section
variable{X:Cx}{CX:CXT}{k:Nat}{f C:Addr}{fd:FuncData}{ps ks:List Str}{sp:Sp}{E:XK}{x m:Str}{p pos apos kpos:Pos}{e o:Expr}{es:List Expr}{kws:List Keyword}{te ta:TE}{t tk:TA}{nm:Option Str}
theorem zfm:PK X [] tNil:=fun _ _ _ _ H Q I h=>wpAny_evalAll_nil ⟨[],H,I,.nil,h⟩
theorem zdp(ha:PE X e te)(hr:PK X kws t):PK X (⟨nm,e,kpos⟩::kws) (zea te t):=by
  intro pos pins s σ H Q I h
  show wpAny _ _ (evalAll ((do let v <-eval e X.env;standAt pos;pure v)::(backToKw pos (keywordEach kws X.env)).map (·.2))) _ _ s
  refine wpAny_evalAll_cons (wpAny_bind (thn (ha pins s σ H _ I h) fun u s1 ⟨x,H1,I1,r1,q1⟩=>wpAny_bind (wpAny_standAt (wpAny_pure ?_))));exact thn (hr pos pins s1 σ H1 _ I1 q1) fun us s2 ⟨xs,H2,I2,r2,q2⟩=>⟨x::xs,H2,I2,.cons r1 r2,q2⟩
variable{g:List Value->List Value->List Value}{gV:List V->List V->List V}
end
structure zq(N P:List Str)(sc:Scope):Prop where
  kind:sc.kind=.function
  co:sc.isCoroutine=false
  gen:sc.isGenerator=false
  nd:N.Nodup
  pre:N.take P.length=P
  par:∀x∈P,sc.names.lookup x=some .local\/sc.names.lookup x=some .cell
  nofree:∀y∈sc.names,y.2≠.free
theorem bc{kindOf:Str->Option NameKind}{x:Str}:∀{binds:List (Str×Value)} {m:Str->Option Value},(∀v,(x,v)∉binds)->bindL kindOf binds m x=m x
  | [],_,_=>rfl
  | (n,v)::r,m,h=>by
    unfold bindL;rw[bc fun w hw=>h w (Zv _ hw)]
    split
    . have:x≠n:=by rintro rfl;exact h v ZA
      simp[this]
    . rfl
theorem c0{kindOf:Str->Option NameKind}{x:Str}:∀{binds:List (Str×Value)} {m:Str->Option Value},(∀v,(x,v)∉binds)->bindC kindOf binds m x=m x
  | [],_,_=>rfl
  | (n,v)::r,m,h=>by
    unfold bindC;rw[c0 fun w hw=>h w (Zv _ hw)]
    split
    . rfl
    . have:x≠n:=by rintro rfl;exact h v ZA
      simp[this]
theorem bd{kindOf:Str->Option NameKind}{x:Str}{v:Value}:∀{P:List Str} {vs:List Value} {i:Nat} {m:Str->Option Value},P.Nodup->P[i]? = some x->vs[i]? = some v->kindOf x=some .local ->
    bindL kindOf (P.zip vs) m x=some v
  | [],_,_,_,_,h,_,_=>by simp at h
  | _::_,[],_,_,_,_,h,_=>by simp at h
  | p::P,w::vs,0,m,nd,h1,h2,hk=>by
    simp at h1 h2;subst h1;subst h2
    show bindL kindOf ((p,w)::P.zip vs) m p=_
    unfold bindL;rw[bc fun v hv=>(ZQ.mp nd).1 (Xd hv).1,if_pos hk];simp
  | p::P,w::vs,i+1,m,nd,h1,h2,hk=>by
    show bindL kindOf ((p,w)::P.zip vs) m x=_
    unfold bindL;exact bd (i:=i) (ZQ.mp nd).2 (by simpa using h1) (by simpa using h2) hk
theorem bw{kindOf:Str->Option NameKind}{x:Str}{v:Value}:∀{P:List Str} {vs:List Value} {i:Nat} {m:Str->Option Value},P.Nodup->P[i]? = some x->vs[i]? = some v->kindOf x≠some .local ->
    bindC kindOf (P.zip vs) m x=some v
  | [],_,_,_,_,h,_,_=>by simp at h
  | _::_,[],_,_,_,_,h,_=>by simp at h
  | p::P,w::vs,0,m,nd,h1,h2,hk=>by
    simp at h1 h2;subst h1;subst h2
    show bindC kindOf ((p,w)::P.zip vs) m p=_
    unfold bindC;rw[c0 fun v hv=>(ZQ.mp nd).1 (Xd hv).1,if_neg hk];simp
  | p::P,w::vs,i+1,m,nd,h1,h2,hk=>by
    show bindC kindOf ((p,w)::P.zip vs) m x=_
    unfold bindC;exact bw (i:=i) (ZQ.mp nd).2 (by simpa using h1) (by simpa using h2) hk
def start(N:List Str)(vs:List V):St:=vs.map some++List.replicate (N.length-vs.length) none
def cxOf(CX:CXT)(P:Program)(w:World)(K:Fg)(mg:Str->Option Value)(base:Heap)(N:List Str)(qual:Str)(scope:Scope)(f:Addr)(cd:Value)(A:Around)(outer:List Env)(s:Shared)(H:Hp)(E:XK):Cx where
  prog:=P
  w:=w
  K:=K
  mg:=mg
  base:=base
  A:=A.deeper (envOfC qual scope s.heap.objs.size f cd)
  N:=N
  s₀:=s
  H₀:=H
  env:=envOfC qual scope s.heap.objs.size f cd
  outer:=outer
  stack:=envOfC qual scope s.heap.objs.size f cd::outer
  ex:=[]
  calm:=true
  fn:=fun _=>true
  pn:=[]
  xe:=fun e s'=>wpAny (model P w) (A.deeper (envOfC qual scope s.heap.objs.size f cd)) (leaving (envOfC qual scope s.heap.objs.size f cd) e) (fun _ s''=>CX outer H s E e s'') (fun e' s''=>CX outer H s E e' s'') s'
theorem za8{sc:Scope}{n:Nat}{x:Str}(h:sc.names.lookup x=some .cell):∃c,(cellsFrom n sc.names []).lookup x=some c:=by
  have q:=PySem.W.cellsFrom_some sc.names n [] (.inl h);exact Option.isSome_iff_exists.mp q
theorem zft{CX:CXT}{P:Program}{w:World}{K:Fg}{mg:Str->Option Value}{base:Heap}{N ps:List Str}{qual:Str}{scope:Scope}{f:Addr}{cd:Value}{A:Around}{outer:List Env}{s s1:Shared}{H:Hp}{E:XK}{us:List Value}{vs:List V}
    (S:zq N ps scope) (hd:A.handled=none) (e0:Env0 P w K mg base A outer s H) (hl:vs.length=ps.length) (r:Vals vs us)
    (x:InCallC s s.heap.objs.size (bindL (envOfC qual scope s.heap.objs.size f cd).kindOf (ps.zip us) fun _=>none) (cellsFrom (s.heap.objs.size+1) scope.names []) (bindC (envOfC qual scope s.heap.objs.size f cd).kindOf (ps.zip us) fun _=>none) s1) :
    Inv (cxOf CX P w K mg base N qual scope f cd A outer s H E) [] (start N vs) H s1:=by
  have hpl:ps.length<=N.length:=by have:=congrArg List.length S.pre;rw[Zj]at this;omega
  obtain⟨h1,tk,rfl,hk⟩:=x.done;have noA:∀b:Addr,b∉(cxOf CX P w K mg base N qual scope f cd A outer s H E).ex:=fun b z=>absurd (show b∈([]:List Addr) from z) (by simp)
  refine⟨⟨e0.mod,S.kind,rfl,rfl,Zm _,fun y z c h1 h2 => ?_,fun y hy => ?_,fun y c _ h => ?_,fun _=>hd,Around.frames_deeper e0.frames,.inr ⟨rfl,rfl⟩,fun b z=>absurd z (noA b),e0.bs,e0.bsz,fun b _ _=>noA b,fun b z=>absurd z (noA b),e0.funs,e0.frf⟩,
    rfl,e0.bare,Un.kept hk,⟨_,x.toInCall.ns,fun i y v h1 h2 h3 => ?_⟩,fun y c h=>⟨_,x.cell y c h⟩,e0.hok.fresh (Zm _),fun y c h => ?_,fun p hp=>absurd (show p∈([]:List (Addr×Obj)) from hp) (by simp),e0.hok.kept hk,?_⟩
  . exact name_of_addr x.apart (PySem.mem_of_lookup h1) (PySem.mem_of_lookup h2)
  . have hy:scope.names.lookup y=some .cell\/scope.names.lookup y=some .free:=hy
    rcases hy with hy | hy
    . exact za8 hy
    . exact absurd rfl (S.nofree _ (PySem.mem_of_lookup hy))
  . exact YQ (x.above y c (PySem.mem_of_lookup h))
  . have hi:i<vs.length:=by
      unfold start at h2
      by_cases hi:i<vs.length
      . exact hi
      . rw[Zf (by simpa using hi)]at h2
        rw[YD]at h2
        split at h2 <;> cases h2
    have ha:vs[i]? = some v:=by
      unfold start at h2;rw[Zg (by simpa using hi),Ze]at h2
      cases e:vs[i]? with
      | none=>rw[e]at h2;cases h2
      | some a=>rw[e]at h2;cases h2;rfl
    obtain⟨u,hu,rv⟩:=r.get ha
    have hp:ps[i]? = some y:=by
      rw[<-S.pre,Yb (by omega)];exact h1
    have ndP:ps.Nodup:=by rw[<-S.pre];exact S.nd.sublist (List.take_sublist _ _)
    refine⟨u,rv,?_⟩
    rcases S.par y (Zi hp) with k | k
    . exact .inl ⟨k,bd ndP hp hu k⟩
    . obtain⟨c,e⟩:=za8 (n:=s.heap.objs.size+1) k
      refine .inr ⟨.inl k,c,e,?_⟩;have q:=x.cell y c e;rw[bw ndP hp hu (by show scope.names.lookup y≠_;rw[k];decide)]at q;exact q
  . exact e0.hok.fresh (YQ (x.above y c (PySem.mem_of_lookup h)))
  . unfold start
    show _=N.length
    rw[Zo,Za,ZI];omega
theorem fn_of{CX:CXT}{P:Program}{w:World}{K:Fg}{mg:Str->Option Value}{base:Heap}{k:Nat}{f:Addr}{name qual:Str}{params:Arguments}{body:List Stmt}{scope:Scope}{dV kV doc pm cdv ct oc:Value}{an od:Option Addr}
    {osl:Array (Option Value)} {N ps:List Str} {sp:Sp} (lk:K.lookup f=some ⟨oc,od,.func (PySem.W.fnOf name qual params body scope dV kV doc pm an cdv ct),osl⟩) (hcd:PySem.W.codeIn K cdv qual=true) (S:zq N ps scope)
    (len:∀vs H Q E,sp vs H Q E->vs.length=ps.length)
    (hbody:∀(A:Around) (outer:List Env) (s:Shared) (H:Hp) (vs:List V) (Q:VK) (E:XK),Room k (A.deeper (envOfC qual scope s.heap.objs.size f cdv))->sp vs H Q E ->
      ∃t,PSs (cxOf CX P w K mg base N qual scope f cdv A outer s H E) body t/\t { nx:=fun _ H'=>Q .non H',rt:=Q } (start N vs) H) :
    FnOk P w K mg base CX (k+1) f (PySem.W.fnOf name qual params body scope dV kV doc pm an cdv ct) ps sp:=by
  refine⟨len,fun A outer s H args us vs Q E hr e0 hb r hsp => ?_⟩;have hl:=len _ _ _ _ hsp;have KX:K.In s.heap:=e0.mod.kin.keeps fun b o e=>(e0.bs b o e).1
  have lim:s.heap.NoLimit:=e0.mod.nolimit.keeps fun b o e=>(e0.bs b o e).1
  have hkind:∀y∈ps.zip us,scope.names.lookup y.1=some .local\/(scope.names.lookup y.1=some .cell/\((cellsFrom (s.heap.objs.size+1) scope.names []).lookup y.1).isSome=true):=fun⟨n,v⟩ hy=>by
    rcases S.par n (Xd hy).1 with q | q
    . exact .inl q
    . exact .inr ⟨q,PySem.W.cellsFrom_some _ _ _ (.inl q)⟩
  refine codeAny_call_function hr.depth (KX _ _ lk) rfl S.co S.gen rfl (PySem.W.codeRec_of KX hcd) (hb _ _ _ _ ?_);refine wpAny_newFunctionEnv_cells S.kind hkind fun env he s1 x => ?_
  subst he;refine⟨lim.keeps x.toInCall.keep,codeAny_func ?_⟩;obtain⟨t,ht,hq⟩:=hbody A outer s H vs Q E (hr.deeper _) hsp;have I:Inv (cxOf CX P w K mg base N qual scope f cdv A outer s H E) [] (start N vs) H s1:=zft S hr.hd e0 hl r x;refine wpAny_mono (ht [] s1 (start N vs) H _ I hq) (fun fl s' hs => ?_) fun e s' hs=>hs
  have fin:∀{σ':St} {H':Hp} {v:V} {u:Value},Inv (cxOf CX P w K mg base N qual scope f cdv A outer s H E) [] σ' H' s'->RelV v u->Q v H'->CE outer P w H s Q u s' :=
    fun {σ' H' v u} J rv q=>⟨v,H',J.os,J.bare,J.base,J.hok,rv,q⟩
  cases fl with
  | ret u =>
    obtain⟨v,σ',H',J,rv,q⟩:=hs;exact fin J rv q
  | next =>
    obtain⟨σ',H',J,q⟩:=hs;exact fin (v:=V.non) (u:=Value.none) J rfl q
  | brk =>
    obtain⟨_,_,_,q⟩:=hs;exact False.elim q
  | cont =>
    obtain⟨_,_,_,q⟩:=hs;exact False.elim q
end L2
namespace L2
open PySem PySem.Spec PyProof.Rows
section
variable{X:Cx}{x:Str}{p pos:Pos}{e:Expr}{es:List Expr}{t:TA}{id T:String}{r:List V->Hp->VK->Prop}
def tCB(r:List V->Hp->VK->Prop)(t:TA):TE:=fun σ H Q=>t σ H fun vs H1=>r vs H1 Q
theorem zr (hc:CallR X (.builtin id) r) (hg:Gl X x) (hm:X.mg x=none) (hv:bootBuiltins x=some (.builtin id)) (ha:PA X (e::es) t) (hn:x ≠ "__name__" := by decide) (hdb:(x==("__debug__" : Str))=false:=by decide)
    (he:starEach (e::es) X.env=(false,eval e X.env)::starEach es X.env:=by rfl) (hpl:(backTo pos (starEach es X.env)).any (·.1)=false:=by rfl):PE X (.Call (.Name x p) (e::es) [] pos) (tCB r t):=by
  intro pins s σ H Q I h;refine wpAny_Call_Name_kw (vi I hg hm hv ?_ hn hdb);exact PyProof.Rows.callWith_builtin1 (thn (ha pos pins s σ H _ I h) fun us s1 ⟨vs,H1,I1,r1,q1⟩=>hc pins s1 σ H1 vs us Q I1 r1 q1) he hpl
theorem xk (hc:CallR X (.type T) r) (hg:Gl X x) (hm:X.mg x=none) (hv:bootBuiltins x=some (.type T)) (ha:PA X (e::es) t) (hn:x ≠ "__name__" := by decide) (hdb:(x==("__debug__" : Str))=false:=by decide)
    (he:starEach (e::es) X.env=(false,eval e X.env)::starEach es X.env:=by rfl) (hpl:(backTo pos (starEach es X.env)).any (·.1)=false:=by rfl):PE X (.Call (.Name x p) (e::es) [] pos) (tCB r t):=by
  intro pins s σ H Q I h;refine wpAny_Call_Name_kw (vi I hg hm hv ?_ hn hdb);exact PyProof.Rows.callWith_type1 (thn (ha pos pins s σ H _ I h) fun us s1 ⟨vs,H1,I1,r1,q1⟩=>hc pins s1 σ H1 vs us Q I1 r1 q1) he hpl
end
end L2
namespace HT
open PySem PyProof.Rows
section
open PySem.SeqAt
open PySem.AutoSeq1 (wpAny_loadPart')
open PySem.MeetsSeq PySem.MeetsSeq2 PySem.MeetsSeq3
end
section
variable{prog:Program}{w:World}{A:Around}{E:Value->Shared->Prop}{s:Shared}
theorem cat_tup{t b:Addr}{vs ws:List Value}{Q:Value->Shared->Prop}(ht:IsTup s.heap t vs.toArray)(hb:IsTup s.heap b ws.toArray)(hv:vs≠[])
    (h1:ws=[]->Q (.ref t) s) (h2:ws≠[]->Q (.ref s.heap.objs.size) { s with heap:=s.heap.push { cls:=.type "tuple", data:=.seq (vs++ws).toArray } })
    (hsz:vs.length+ws.length<=sizeLine):wpAny (model prog w) A (binaryOp .Add (.ref t) (.ref b)) Q E s:=by
  obtain⟨⟨cls,dd,data,sl⟩,ho,hc,n,hd⟩:=id ht;obtain⟨⟨cls2,dd2,data2,sl2⟩,ho2,hc2,n2,hd2⟩:=id hb;simp only at hc hd hc2 hd2;subst hc hd hc2 hd2;have e:vs.toArray++ws.toArray=(vs++ws).toArray:=by simp
  by_cases hw:ws=[]
  . exact concat_meets ⟨_,ho,rfl⟩ ⟨_,ho2,rfl⟩ noFill_tuple_add seq_tuple_add PySem.F.slot_tuple_add PySem.F.entry_tuple_add (PySem.F.args_tuple_add_2 _ _)
      (tuple_addW1 t b vs.toArray ws.toArray n n2 dd dd2 sl sl2 (by simpa using hv) (by simp[hw])) ⟨ho,ho2,h1 hw⟩
  . refine concat_meets ⟨_,ho,rfl⟩ ⟨_,ho2,rfl⟩ noFill_tuple_add seq_tuple_add PySem.F.slot_tuple_add PySem.F.entry_tuple_add (PySem.F.args_tuple_add_2 _ _)
      (tuple_addW2 t b vs.toArray ws.toArray n n2 dd dd2 sl sl2 (by simpa using hv) (by simpa using hw) (by rw[Zr,Zr];exact hsz)) ⟨ho,ho2,?_⟩
    rw[e];exact h2 hw
def sIx(n d:Nat):Option Int->Nat
  | none=>d
  | some v=>if v<0 then(v+(n:Int)).toNat else min v.toNat n
theorem sIx_none(n d:Nat):sIx n d none=d:=rfl
theorem sIx_nat(n d k:Nat):sIx n d (some (k:Int))=min k n:=by
  show(if (k:Int)<0 then((k:Int)+(n:Int)).toNat else min (k:Int).toNat n)=min k n
  rw[if_neg (by omega),Zw]
theorem sIx_le(n d:Nat)(hd:d<=n)(o:Option Int):sIx n d o<=n:=by
  cases o with
  | none=>exact hd
  | some v =>
    show(if v<0 then(v+(n:Int)).toNat else min v.toNat n)<=n
    by_cases hv:v<0
    . rw[if_pos hv];omega
    . rw[if_neg hv];exact ZB _ _
theorem zda(v:Int)(n d:Nat):(if v<0 then max (v+(n:Int)) 0 else min v (n:Int))=((sIx n d (some v):Nat):Int):=by
  show(if v<0 then max (v+(n:Int)) 0 else min v (n:Int))=(((if v<0 then(v+(n:Int)).toNat else min v.toNat n):Nat):Int)
  by_cases hv:v<0
  . simp only[if_pos hv];omega
  . simp only[if_neg hv];omega
theorem zeq(lo hi:Option Int)(n:Nat):Builtin.Slice.sliceAdjust lo hi 1 (n:Int)=(((sIx n 0 lo:Nat):Int),((sIx n n hi:Nat):Int)):=by
  have h1:¬((1:Int)<0):=by omega
  unfold Builtin.Slice.sliceAdjust;simp only[h1,if_false];refine Prod.ext ?_ ?_
  . cases lo with
    | none=>rfl
    | some v=>exact zda v n 0
  . cases hi with
    | none=>rfl
    | some v=>exact zda v n n
theorem ze3(i j:Nat):Builtin.Slice.slicePlaces (i:Int) (j:Int) 1=j-i:=by
  unfold Builtin.Slice.slicePlaces;have h1:(1:Int) > 0:=by omega
  simp only[h1,if_true,Int.ediv_one]
  split <;> omega
theorem fr{v:Value}{o:Option Int}{Q:Option Int->Shared->Prop}(p:IsPart v o)(h:Q o s):wpAny (model prog w) A (Builtin.Slice.slicePartIndex v) Q E s:=by
  cases p with
  | none=>exact slicePart_none h
  | int i t=>exact slicePart_int h
theorem nq{sl:Addr}{vl vu:Value}{lo hi:Option Int}{n:Nat}{Q:Int×Int×Nat->Shared->Prop}(hs:s.heap.IsSliceOf sl vl vu .none)(pl:IsPart vl lo)(pu:IsPart vu hi)
    (h:Q (((sIx n 0 lo:Nat):Int),1,sIx n n hi-sIx n 0 lo) s):wpAny (model prog w) A (Builtin.Slice.sliceApplied (.ref sl) (pure (n:Int))) Q E s:=by
  obtain⟨os,hos,hcs,hds⟩:=id hs;unfold Builtin.Slice.sliceApplied Builtin.Slice.sliceFields;refine wpAny_bind (wpAny_bind (wpAny_field hos hds (x:=vl) rfl (wpAny_bind (wpAny_field hos hds (x:=vu) rfl (wpAny_bind (wpAny_field hos hds (x:=.none) rfl (wpAny_pure ?_)))))));refine wpAny_bind (slicePart_none ?_)
  show wpAny _ _ (if ((1:Int)==0)=true then _ else _) _ _ s
  rw[if_neg (by decide)];refine wpAny_bind (fr pl (wpAny_bind (fr pu (wpAny_bind (wpAny_pure ?_)))))
  show wpAny _ _ (match Builtin.Slice.sliceAdjust lo hi 1 (n:Int) with | (lo,hi)=>pure (lo,(1:Int),Builtin.Slice.slicePlaces lo hi 1)) _ _ s
  rw[zeq lo hi n]
  show wpAny _ _ (pure (((sIx n 0 lo:Nat):Int),(1:Int),Builtin.Slice.slicePlaces ((sIx n 0 lo:Nat):Int) ((sIx n n hi:Nat):Int) 1)) _ _ s
  rw[ze3];exact wpAny_pure h
theorem ziw(xs:Array Value)(i k:Nat):((List.range k).filterMap fun(m:Nat)=>xs[((i:Int)+(m:Int)*1).toNat]?).toArray=((xs.toList.drop i).take k).toArray:=by
  have e:(fun(m:Nat)=>xs[((i:Int)+(m:Int)*1).toNat]?)=fun m=>xs[i+m]? := by
    funext m
    have:((i:Int)+(m:Int)*1).toNat=i+m:=by omega
    rw[this]
  rw[e];have:=pick_run xs i k;rw[YW]at this;have e2:((fun x=>xs[x]?)∘fun x=>i+x)=fun m=>xs[i+m]? := rfl
  rw[e2]at this;rw[this]
theorem getItem_tuple_cut{t sl:Addr}{items:Array Value}{vl vu:Value}{lo hi:Option Int}{Q:Value->Shared->Prop}(ht:IsTup s.heap t items)(hs:s.heap.IsSliceOf sl vl vu .none)(pl:IsPart vl lo)(pu:IsPart vu hi)
    (hw:¬(sIx items.size 0 lo=0/\sIx items.size items.size hi=items.size))
    (h:Q (.ref s.heap.objs.size) { s with heap:=s.heap.push { cls:=.type "tuple", data:=.seq ((items.toList.drop (sIx items.size 0 lo)).take (sIx items.size items.size hi-sIx items.size 0 lo)).toArray } })
    (hsz:items.size<=sizeLine):wpAny (model prog w) A (getItem (.ref t) (.ref sl)) Q E s:=by
  have htake:sizeOk (.seq ((items.toList.drop (sIx items.size 0 lo)).take (sIx items.size items.size hi-sIx items.size 0 lo)).toArray):=by
    show((items.toList.drop (sIx items.size 0 lo)).take (sIx items.size items.size hi-sIx items.size 0 lo)).toArray.size<=sizeLine
    rw[Zr,Zj,ZP,Yd];omega
  have hj:sIx items.size items.size hi<=items.size:=sIx_le _ _ (Zm _) hi;obtain⟨os,hos,hcs,hds⟩:=id hs;have hTs:s.TypeIs (.ref sl) "slice" := ⟨os,hos,hcs⟩;unfold getItem
  try with_reducible refine wpAny_holding ?_
  first | refine wpAny_bind (wpAny_pure ?_) | skip
  refine wpAny_bind (wpAny_sequenceKey ht.typeIs (by decide) ?_)
  refine wpAny_bind (wpAny_callSpecial?_slot (name:=Str.ofString "__getitem__") ht.typeIs PyProof.Rows.slot_tuple_getitem
    (wpAny_call_entry PyProof.Rows.slot_tuple_getitem ht.typeIs entry_tuple_getitem ?_ (args_tuple_getitem _ _)))
  show wpAny _ _ (Builtin.Tuple.tupleItemsOf (.ref t) >>= _) _ _ s
  refine wpAny_bind (tupleItemsOf_ ht ?_);refine wpAny_bind (wpAny_typeOf hTs ?_);rw[if_pos (by decide)];refine wpAny_bind (nq hs pl pu ?_)
  have hno:¬((((sIx items.size 0 lo:Nat):Int)==0&&(1:Int)==1&&(sIx items.size items.size hi-sIx items.size 0 lo)==items.size)=true):=by
    intro q;rw[Bool.and_eq_true,Bool.and_eq_true]at q;have q1:((sIx items.size 0 lo:Nat):Int)=0:=eq_of_beq q.1.1;have q2:sIx items.size items.size hi-sIx items.size 0 lo=items.size:=eq_of_beq q.2;exact hw ⟨by omega,by omega⟩
  show wpAny _ _ (if (((sIx items.size 0 lo:Nat):Int)==0&&(1:Int)==1&&(sIx items.size items.size hi-sIx items.size 0 lo)==items.size)=true then _ else _) _ _ s
  rw[if_neg hno,ziw]
  first
    | exact wpAny_bind (m:=Builtin.Tuple.tupleExact _) (wpAny_newObj_type (wpAny_pure ⟨_,rfl,wpAny_pure h⟩) htake)
    | exact wpAny_bind (m:=Builtin.Tuple.tupleExact _) (wpAny_newObj_type (wpAny_bind (wpAny_pure (wpAny_pure ⟨_,rfl,wpAny_pure h⟩))) htake)
    | exact wpAny_bind (wpAny_bind (m:=Builtin.Tuple.tupleExact _) (wpAny_newObj_type (wpAny_pure (wpAny_pure ⟨_,rfl,wpAny_pure h⟩)) htake))
    | exact wpAny_bind (wpAny_bind (m:=Builtin.Tuple.tupleExact _) (wpAny_newObj_type (wpAny_pure ⟨_,rfl,wpAny_pure h⟩) htake))
end
end HT
namespace L2
open PySem PySem.Spec PyProof.Rows
abbrev TO:=St->Hp->(Option Int->Hp->Prop)->Prop
def PO(X:Cx)(e:Option Expr)(t:TO):Prop :=
  ∀(pins:List (Addr×Obj)) (s:Shared) (σ:St) (H:Hp) (Q:Option Int->Hp->Prop),Inv X pins σ H s->t σ H Q ->
    wpAny (model X.prog X.w) X.A (evalPart e X.env) (fun u s'=>∃o H',Inv X pins σ H' s'/\IsPart u o/\Q o H') X.xe s
def zcr:TO:=fun _ H Q=>Q none H
def tPart(t:TE):TO:=fun σ H Q=>t σ H fun x H1=>∃i,x=.int i/\Q (some i) H1
theorem zfe{ns:List Int}:∀{us:List Value},Vals (ns.map V.int) us->IntsAre us ns:=by
  induction ns with
  | nil=>intro us r;rw[YY]at r;cases r;exact .nil
  | cons n ns ih =>
    intro us r;rw[ZM]at r
    cases r with
    | cons r1 r2 =>
      obtain⟨t,e⟩:=r1;subst e;exact .cons n t (ih r2)
section
variable{X:Cx}{e:Expr}{te:TE}{lo hi:Option Expr}{tl th:TO}{pos p2:Pos}
theorem we:PO X none zcr:=by
  intro pins s σ H Q I h;rw[evalPart_none];exact wpAny_pure ⟨none,H,I,.none,h⟩
theorem xy(h:PE X e te):PO X (some e) (tPart te):=by
  intro pins s σ H Q I hw;rw[evalPart_some];refine thn (h pins s σ H _ I hw) fun u s1 ⟨x,H1,I1,r1,q1⟩ => ?_
  obtain⟨i,rfl,q⟩:=q1;obtain⟨t,rfl⟩:=r1;exact⟨some i,H1,I1,.int i t,q⟩
def SlR(X:Cx)(r:V->Option Int->Option Int->Hp->VK->Prop):Prop :=
  ∀(pins:List (Addr×Obj)) (s:Shared) (σ:St) (H:Hp) (x:V) (v vl vu:Value) (lo hi:Option Int) (sl:Addr) (Q:VK),Inv X pins σ H s->RelV x v->s.heap.IsSliceOf sl vl vu .none->IsPart vl lo->IsPart vu hi->r x lo hi H Q ->
    ∃T id,typeLookup (.type T) "__getitem__" = pure (some (.builtin id))/\s.TypeIs v T/\wpAny (model X.prog X.w) X.A (getItem v (.ref sl)) (EP X pins σ Q) X.xe s
theorem SlR.or{r r':V->Option Int->Option Int->Hp->VK->Prop}(h:SlR X r)(h':SlR X r'):SlR X (fun x lo hi H Q=>r x lo hi H Q\/r' x lo hi H Q):=by
  intro pins s σ H x v vl vu lo hi sl Q I rx hs pl pu q
  rcases q with q | q
  . exact h pins s σ H x v vl vu lo hi sl Q I rx hs pl pu q
  . exact h' pins s σ H x v vl vu lo hi sl Q I rx hs pl pu q
def tSl(r:V->Option Int->Option Int->Hp->VK->Prop)(te:TE)(tl th:TO):TE:=fun σ H Q=>te σ H fun x H1=>tl σ H1 fun l H2=>th σ H2 fun u H3=>r x l u H3 Q
theorem xt{r:V->Option Int->Option Int->Hp->VK->Prop}(hr:SlR X r)(he:PE X e te)(hl:PO X lo tl)(hu:PO X hi th):PE X (.Subscript e (.Slice lo hi none p2) pos) (tSl r te tl th):=by
  intro pins s σ H Q I h;refine Subscript_ (thn (he pins s σ H _ I h) fun v s1 ⟨x,H1,I1,r1,q1⟩ => ?_);refine wpAny_Slice (thn (hl pins s1 σ H1 _ I1 q1) fun vl s2 ⟨l,H2,I2,pl,q2⟩=>thn (hu pins s2 σ H2 _ I2 q2) fun vu s3 ⟨u,H3,I3,pu,q3⟩ => ?_);rw[evalPart_none];refine wpAny_pure ?_;have I4:Inv X pins σ H3 { s3 with heap:=s3.heap.push { cls:=.type "slice", data:=.fields #[vl,vu,.none] } }:=I3.kept (t':=s3.toks) fun b ob q=>Heap.get?_push_of_some _ q
  obtain⟨T,id,hT,ht,hg⟩:=hr pins { s3 with heap:=s3.heap.push { cls:=.type "slice", data:=.fields #[vl,vu,.none] } } σ H3 x v vl vu l u s3.heap.objs.size Q I4 r1 (Heap.IsSliceOf.new ..) pl pu q3
  show wpAny (model X.prog X.w) X.A (subscriptTail e (.Slice lo hi none p2) v (.ref s3.heap.objs.size)) (EP X pins σ Q) X.xe { s3 with heap:=s3.heap.push { cls:=.type "slice", data:=.fields #[vl,vu,.none] } }
  exact tail_any (ops:=[.ref s3.heap.objs.size,v]) ht hT hg (by with_unfolding_all rfl)
def cutV(xs:List V)(lo hi:Option Int):List V:=(xs.drop (HT.sIx xs.length 0 lo)).take (HT.sIx xs.length xs.length hi-HT.sIx xs.length 0 lo)
theorem gp(xs:List V)(lo hi:Option Int):(cutV xs lo hi).length<=xs.length:=by
  unfold cutV;rw[Zj,ZP];omega
def rSlT(K:Fg):V->Option Int->Option Int->Hp->VK->Prop:=fun x lo hi H Q=>∃a xs,x=.ref a/\SqT K H a xs /\
  ¬(HT.sIx xs.length 0 lo=0/\HT.sIx xs.length xs.length hi=xs.length)/\∀p,H p=none->Q (.ref p) (upd H p (.tup (cutV xs lo hi)))
theorem zbb:SlR X (rSlT X.K):=by
  intro pins s σ H x v vl vu lo hi sl Q I rx hs pl pu h;obtain⟨a,xs,rfl,hx,hw,q⟩:=h;cases rx;obtain⟨its,r,ht,hz⟩:=I.tuple hx;have hlen:its.toArray.size=xs.length:=by rw[Zr];exact r.length.symm
  refine⟨"tuple", _,PyProof.Rows.slot_tuple_getitem.lookup,ht.typeIs,?_⟩;refine HT.getItem_tuple_cut ht hs pl pu (by rw[hlen];exact hw) ?_ (by rw[hlen];exact hz);rw[hlen];refine⟨.ref s.heap.objs.size,_,I.laid (t':=s.toks) (o:=.tup (cutV xs lo hi)) (fun b ob q=>Heap.get?_push_of_some _ q) (Zm _) ?_,rfl,q _ (I.hok.fresh (Zm _))⟩;exact⟨Zd (gp xs lo hi) hz,_,(r.drop (HT.sIx xs.length 0 lo)).take (HT.sIx xs.length xs.length hi-HT.sIx xs.length 0 lo),IsTupD.new _ _⟩
def rCatT(K:Fg):R2:=fun x y H Q=>∃a b xs ys,x=.ref a/\y=.ref b/\SqT K H a xs/\SqT K H b ys/\xs≠[]/\xs.length+ys.length<=sizeLine /\
  (ys=[]->Q (.ref a) H)/\(ys≠[]->∀p,H p=none->Q (.ref p) (upd H p (.tup (xs++ys))))
theorem Vals.nil_iff{xs:List V}{us:List Value}(r:Vals xs us):us=[]↔xs=[]:=by
  cases r with
  | nil=>simp
  | cons _ _=>simp
theorem zjm:OpR X (binaryOp .Add) (rCatT X.K):=by
  intro pins s σ H x y v u Q I rx ry h;obtain⟨a,b,xs,ys,rfl,rfl,ha,hb,hx,hz,q1,q2⟩:=h;cases rx;cases ry;obtain⟨its,r1,p1,_⟩:=I.tuple ha;obtain⟨its2,r2,p2,_⟩:=I.tuple hb;refine HT.cat_tup p1 p2 (fun z=>hx (r1.nil_iff.mp z)) (fun z=>⟨.ref a,H,I,rfl,q1 (r2.nil_iff.mp z)⟩) (fun z => ?_) (by rw[<-r1.length,<-r2.length];exact hz);refine⟨.ref s.heap.objs.size,_,I.laid (t':=s.toks) (o:=.tup (xs++ys)) (fun b ob q=>Heap.get?_push_of_some _ q) (Zm _) ?_,rfl,q2 (fun w=>z (r2.nil_iff.mpr w)) _ (I.hok.fresh (Zm _))⟩;exact⟨by rw[Zo];exact hz,_,r1.append r2,IsTupD.new _ _⟩
end
end L2
namespace L2
open PySem PySem.Spec PyProof.Rows
def ixN(n:Nat)(i:Int):Option Nat:=if 0<=i then(if i<n then some i.toNat else none) else if -(n:Int)<=i then some (i+n).toNat else none
def atI{α:Type}(xs:List α)(i:Int):Option α:=(ixN xs.length i).bind fun j=>xs[j]?
theorem zjd{n:Nat}{i:Int}{j:Nat}(h:ixN n i=some j):seqIndex? i n=some j/\j<n /\ -(n:Int)<=i/\i<n:=by
  unfold ixN at h
  by_cases h0:0<=i
  . rw[if_pos h0]at h
    by_cases h1:i<n
    . rw[if_pos h1]at h
      have e:i.toNat=j:=Option.some.inj h;exact⟨by rw[seqIndex_of h0 h1,e],by omega,by omega,h1⟩
    . rw[if_neg h1]at h;cases h
  . rw[if_neg h0]at h
    by_cases h1 : -(n:Int)<=i
    . rw[if_pos h1]at h
      have e:(i+n).toNat=j:=Option.some.inj h;exact⟨by rw[seqIndex_neg (by omega) h1,e],by omega,h1,by omega⟩
    . rw[if_neg h1]at h;cases h
theorem d7{α:Type}{xs:List α}{i:Int}{v:α}(h:atI xs i=some v):∃j,seqIndex? i xs.length=some j/\xs[j]? = some v/\j<xs.length /\ -(xs.length:Int)<=i/\i<xs.length:=by
  unfold atI at h
  cases e:ixN xs.length i with
  | none=>rw[e]at h;cases h
  | some j =>
    rw[e]at h;obtain⟨h1,h2,h3,h4⟩:=zjd e;exact⟨j,h1,h,h2,h3,h4⟩
theorem z7{α:Type}{xs:List α}{j:Nat}{v:α}(h:xs[j]? = some v):atI xs (j:Int)=some v:=by
  have hj:j<xs.length:=(Zc.mp h).1
  have e:ixN xs.length (j:Int)=some j:=by
    unfold ixN;rw[if_pos (by omega),if_pos (by omega)];simp
  unfold atI;rw[e];exact h
theorem zik{α:Type}(xs:List α)(v:α):atI (xs++[v]) (-1)=some v:=by
  have hl:(xs++[v]).length=xs.length+1:=by simp
  have e:ixN (xs++[v]).length (-1)=some xs.length:=by
    unfold ixN;rw[hl,if_neg (by decide),if_pos (by omega)]
    congr 1
    omega
  unfold atI;rw[e]
  show(xs++[v])[xs.length]? = some v
  simp
def zj1(b:Expr):Prop:=∀o i,subscripted b false o i=operate [o,i] (getItem o i)
def IxR(X:Cx)(r:R2):Prop :=
  ∀(value slice:Expr) (pins:List (Addr×Obj)) (s:Shared) (σ:St) (H:Hp) (x y:V) (v u:Value) (Q:VK),Inv X pins σ H s->RelV x v->RelV y u->r x y H Q ->
    subscripted slice false v u=operate [v,u] (getItem v u)->wpAny (model X.prog X.w) X.A (subscriptTail value slice v u) (EP X pins σ Q) X.xe s
def MtR(X:Cx)(id:String)(r:V->List V->Hp->VK->Prop):Prop :=
  ∀(pins:List (Addr×Obj)) (s:Shared) (σ:St) (H:Hp) (x:V) (xs:List V) (v:Value) (us:List Value) (Q:VK),Inv X pins σ H s->RelV x v->Vals xs us->r x xs H Q ->
    wpAny (model X.prog X.w) X.A (call (.builtin id) (v::us)) (EP X pins σ Q) X.xe s
section
variable{X:Cx}{a b:Expr}{ta tb:TE}{pos:Pos}
theorem IxR.or{r r':R2}(h:IxR X r)(h':IxR X r'):IxR X (fun x y H Q=>r x y H Q\/r' x y H Q):=by
  intro value slice pins s σ H x y v u Q I rx ry q hs
  rcases q with q | q
  . exact h value slice pins s σ H x y v u Q I rx ry q hs
  . exact h' value slice pins s σ H x y v u Q I rx ry q hs
theorem MtR.or{id:String}{r r':V->List V->Hp->VK->Prop}(h:MtR X id r)(h':MtR X id r'):MtR X id (fun x xs H Q=>r x xs H Q\/r' x xs H Q):=by
  intro pins s σ H x xs v us Q I rx rs q
  rcases q with q | q
  . exact h pins s σ H x xs v us Q I rx rs q
  . exact h' pins s σ H x xs v us Q I rx rs q
theorem z0{r:R2}(hr:IxR X r)(ha:PE X a ta)(hb:PE X b tb)(hs:zj1 b):PE X (.Subscript a b pos) (tOp r ta tb):=by
  intro pins s σ H Q I h;exact Subscript_ (binT ha hb I h fun v u s2 x y H2 I2 rx ry q=>hr a b pins s2 σ H2 x y v u Q I2 rx ry q (hs _ _))
def rIxL(K:Fg):R2:=fun x y H Q=>∃p xs i v,x=.ref p/\y=.int i/\SqL K H p xs/\atI xs i=some v/\Q v H
def rIxT(K:Fg):R2:=fun x y H Q=>∃p xs i v,x=.ref p/\y=.int i/\SqT K H p xs/\atI xs i=some v/\Q v H
def rIxS:R2:=fun x y H Q=>∃z i c,x=.str z/\y=.int i/\z.length<=sizeLine/\atI z.cps.toList i=some c/\Q (.str ⟨#[c]⟩) H
theorem yc:IxR X (rIxL X.K):=by
  intro value slice pins s σ H x y v u Q I rx ry h hs;obtain⟨p,xs,i,z,rfl,rfl,hq,he,q⟩:=h;cases rx;obtain⟨t,rfl⟩:=ry;obtain⟨its,r,pl,hz⟩:=I.list hq;obtain⟨j,h1,h2,h3,h4,h5⟩:=d7 he;obtain⟨w,ew,rw'⟩:=r.get h2;have hl:=r.length;have hn:=nv;have fin:EP X pins σ Q w s:=⟨z,H,I,rw',q⟩
  by_cases h0:0<=i
  . have hj:i.toNat=j:=by
      rw[seqIndex_of h0 h5]at h1;exact Option.some.inj h1
    exact item_listR pl.isList h0 (by omega) (by rw[hj];simpa using ew) fin hs
  . have hj:(i+(its.toArray.size:Int)).toNat=j:=by
      rw[seqIndex_neg (by omega) h4]at h1;rw[Zr,<-hl];exact Option.some.inj h1
    exact subscriptTail_builtinR (x:=w) pl.isList.typeIs slot_list_getitem.lookup
      (wpAny_getItem_list_neg (Q:=fun r s'=>r=w/\EP X pins σ Q r s') pl.isList (by omega) (by rw[Zr] <;> omega) (by omega) (by rw[hj];simpa using ew) ⟨rfl,fin⟩) hs
theorem ym:IxR X (rIxT X.K):=by
  intro value slice pins s σ H x y v u Q I rx ry h hs;obtain⟨p,xs,i,z,rfl,rfl,hq,he,q⟩:=h;cases rx;obtain⟨t,rfl⟩:=ry;obtain⟨its,r,pl,hz⟩:=I.tuple hq;obtain⟨j,h1,h2,h3,h4,h5⟩:=d7 he;obtain⟨w,ew,rw'⟩:=r.get h2;have hl:=r.length;have hn:=nv;have fin:EP X pins σ Q w s:=⟨z,H,I,rw',q⟩
  exact subscriptTail_builtinR (x:=w) pl.typeIs slot_tuple_getitem.lookup
    (getItem_tuple (j:=j) (Q:=fun r s'=>r=w/\EP X pins σ Q r s') pl (by omega) (by omega) (by rw[Zr,<-hl];exact h1) (by simpa using ew) ⟨rfl,fin⟩) hs
theorem zgh:IxR X rIxS:=by
  intro value slice pins s σ H x y v u Q I rx ry h hs;obtain⟨z,i,c,rfl,rfl,hz,he,q⟩:=h;obtain⟨t,rfl⟩:=rx;obtain⟨t',rfl⟩:=ry;obtain⟨j,h1,h2,h3,h4,h5⟩:=d7 he;have hl:z.cps.toList.length=z.length:=by simp[Str.length]
  rw[hl]at h1 h4 h5;have hn:=nv
  exact tail_any (typeIs_str s z t) slot_str_getitem.lookup (getItem_str (c:=c) (by
    have e1:decide (i < -(2^63:Int))=false:=decide_eq_false (by omega);have e2:decide (i ≥ 2^63)=false:=decide_eq_false (by omega)
    rw[e1,e2,Bool.or_false]) (by rw[h1];simpa using h2) ⟨.str ⟨#[c]⟩,H,I.tok _,⟨_,rfl⟩,q⟩) hs
theorem Inv.lst{pins:List (Addr×Obj)}{σ:St}{H:Hp}{s:Shared}{p:Addr}{xs:List V}(I:Inv X pins σ H s)(h:H p=some (.lst xs)) :
    ∃(its:List Value) (n:Nat),Vals xs its/\s.heap.get? p=some { cls:=.type "list", data:=.seq its.toArray n }/\xs.length<=sizeLine:=by
  obtain⟨z,its,n,r,e⟩:=I.hok p _ h;exact⟨its,n,r,e,z⟩
def rSetL:V->V->V->Hp->(Hp->Prop)->Prop:=fun o i v H Q=>∃p xs k j,o=.ref p/\i=.int k/\H p=some (.lst xs)/\ixN xs.length k=some j/\Q (upd H p (.lst (xs.set j v)))
theorem zaz(lo hi:Option Int)(n:Nat):(sliceBounds lo hi none n).1=((HT.sIx n 0 lo:Nat):Int)/\(sliceBounds lo hi none n).2.1=((HT.sIx n n hi:Nat):Int)/\(sliceBounds lo hi none n).2.2=1:=by
  refine⟨?_,?_,rfl⟩
  . cases lo with
    | none=>simp[sliceBounds,HT.sIx]
    | some i =>
      simp only[sliceBounds,HT.sIx,Option.getD_none,show(1:Int) > 0 by decide,if_true]
      by_cases h:i<0
      . simp only[h,if_true] <;> omega
      . simp only[h,if_false] <;> omega
  . cases hi with
    | none=>simp[sliceBounds,HT.sIx]
    | some i =>
      simp only[sliceBounds,HT.sIx,Option.getD_none,show(1:Int) > 0 by decide,if_true]
      by_cases h:i<0
      . simp only[h,if_true] <;> omega
      . simp only[h,if_false] <;> omega
theorem ad(its:List Value)(lo hi:Option Int):slicePick its.toArray lo hi none=((its.drop (HT.sIx its.length 0 lo)).take (HT.sIx its.length its.length hi-HT.sIx its.length 0 lo)).toArray:=by
  obtain⟨h1,h2,h3⟩:=zaz lo hi its.toArray.size;unfold slicePick;rw[h1,h2,h3];simp only[sliceRange_one,pick_run,Zr] <;> rfl
def rSlL(K:Fg):V->Option Int->Option Int->Hp->VK->Prop:=fun x lo hi H Q=>∃a xs,x=.ref a/\SqL K H a xs/\∀p,H p=none->Q (.ref p) (upd H p (.lst (cutV xs lo hi)))
theorem kr:SlR X (rSlL X.K):=by
  intro pins s σ H x v vl vu lo hi sl Q I rx hs pl pu h;obtain⟨a,xs,rfl,hx,q⟩:=h;cases rx;obtain⟨its,r,ht,hz⟩:=I.list hx;have hlen:=r.length;refine⟨"list", _,slot_list_getitem.lookup,ht.isList.typeIs,?_⟩;refine wpAny_getItem_list_slice ht.isList hs pl pu .none (by simp) ?_ (by rw[Zr] <;> omega);rw[ad,<-hlen];refine⟨.ref s.heap.objs.size,_,I.laid (t':=s.toks) (o:=.lst (cutV xs lo hi)) (fun b ob q=>Heap.get?_push_of_some _ q) (Zm _) ?_,rfl,q _ (I.hok.fresh (Zm _))⟩;exact⟨Zd (gp xs lo hi) hz,_,0,(r.drop (HT.sIx xs.length 0 lo)).take (HT.sIx xs.length xs.length hi-HT.sIx xs.length 0 lo),Heap.get?_push_size _ rfl⟩
def wv:V->Bool
  | .non=>true
  | .bl _=>true
  | .int _=>true
  | .str _=>true
  | _=>false
def eqV:V->V->Bool
  | .non,.non=>true
  | .bl a,.bl b=>a==b
  | .bl a,.int b=>(if a then 1 else 0)==b
  | .int a,.bl b=>a==(if b then 1 else 0)
  | .int a,.int b=>a==b
  | .str a,.str b=>a==b
  | _,_=>false
theorem eqAt_V{A:Around}{s:Shared}{y x:V}{u v:Value}(ry:RelV y u)(rx:RelV x v)(fy:wv y=true)(fx:wv x=true):SeqAt.EqAt A s u v (eqV y x):=by
  cases y with
  | non =>
    cases ry
    cases x with
    | non=>cases rx;exact SeqAt.EqAt.same _
    | bl b=>cases rx;exact SeqAt.EqAt.none_bool b
    | int b=>obtain⟨t,rfl⟩:=rx;exact SeqAt.EqAt.none_int b t
    | str b=>obtain⟨t,rfl⟩:=rx;exact SeqAt.EqAt.none_str b t
    | _=>exact absurd (show false=true from fx) Bool.false_ne_true
  | bl a =>
    cases ry
    cases x with
    | non=>cases rx;exact SeqAt.EqAt.bool_none a
    | bl b=>cases rx;exact SeqAt.EqAt.bool_bool a b
    | int b=>obtain⟨t,rfl⟩:=rx;exact SeqAt.EqAt.bool_int a b t
    | str b=>obtain⟨t,rfl⟩:=rx;exact SeqAt.EqAt.bool_str a b t
    | _=>exact absurd (show false=true from fx) Bool.false_ne_true
  | int a =>
    obtain⟨t',rfl⟩:=ry
    cases x with
    | non=>cases rx;exact SeqAt.EqAt.int_none a t'
    | bl b=>cases rx;exact SeqAt.EqAt.int_bool a t' b
    | int b=>obtain⟨t,rfl⟩:=rx;exact SeqAt.EqAt.int_int a t' b t
    | str b=>obtain⟨t,rfl⟩:=rx;exact SeqAt.EqAt.int_str a t' b t
    | _=>exact absurd (show false=true from fx) Bool.false_ne_true
  | str a =>
    obtain⟨t',rfl⟩:=ry
    cases x with
    | non=>cases rx;exact SeqAt.EqAt.str_none a t'
    | bl b=>cases rx;exact SeqAt.EqAt.str_bool a t' b
    | int b=>obtain⟨t,rfl⟩:=rx;exact SeqAt.EqAt.str_int a t' b t
    | str b=>obtain⟨t,rfl⟩:=rx;exact SeqAt.EqAt.str_str a t' b t
    | _=>exact absurd (show false=true from fx) Bool.false_ne_true
  | _=>exact absurd (show false=true from fy) Bool.false_ne_true
def eqU(x:V)(u:Value):Bool:=match u with
  | .none=>eqV .non x
  | .bool b=>eqV (.bl b) x
  | .int i _=>eqV (.int i) x
  | .str z _=>eqV (.str z) x
  | _=>false
theorem zat{x y:V}{u:Value}(r:RelV y u)(f:wv y=true):eqU x u=eqV y x:=by
  cases y with
  | non=>cases r;rfl
  | bl b=>cases r;rfl
  | int i=>obtain⟨t,rfl⟩:=r;rfl
  | str z=>obtain⟨t,rfl⟩:=r;rfl
  | _=>exact absurd (show false=true from f) Bool.false_ne_true
theorem ca{x:V}:∀{xs:List V} {us:List Value},Vals xs us->xs.all wv=true->us.any (eqU x)=xs.any fun y=>eqV y x
  | _,_,.nil,_=>rfl
  | y::xs,u::us,.cons r t,f=>by
    rw[List.all_cons,Bool.and_eq_true]at f;rw[YJ,YJ,zat r f.1,ca t f.2]
theorem md{A:Around}{s:Shared}{x:V}{v:Value}(rx:RelV x v)(fx:wv x=true):∀{xs:List V} {us:List Value},Vals xs us->xs.all wv=true->∀u∈us,SeqAt.EqAt A s u v (eqU x u)
  | _,_,.nil,_=>fun u hu=>by cases hu
  | y::xs,u::us,.cons r t,f=>fun u' hu=>by
    rw[List.all_cons,Bool.and_eq_true]at f
    rcases ZK.mp hu with rfl | hu
    . rw[zat r f.1];exact eqAt_V r rx f.1 fx
    . exact md rx fx t f.2 u' hu
def inV(x:V)(xs:List V):Bool:=xs.any fun y=>eqV y x
def rIn(K:Fg)(neg:Bool):R2:=fun x y H Q=>∃p xs,y=.ref p/\(SqL K H p xs\/SqT K H p xs)/\wv x=true/\xs.all wv=true/\Q (.bl (if neg then !inV x xs else inV x xs)) H
theorem zfo:OpR X (compareOp .In) (rIn X.K false):=by
  intro pins s σ H x y v u Q I rx ry h;obtain⟨p,xs,rfl,hq,fx,fs,q⟩:=h;cases ry
  rcases hq with hq | hq
  . obtain⟨its,r,pl,hz⟩:=I.list hq
    refine SeqAt.in_listAt (eqU x) pl.isList (fun w hw=>md rx fx r fs w (by simpa using hw)) ⟨.bl _,H,I,rfl,?_⟩;rw[show its.toArray.any (eqU x)=its.any (eqU x) by simp,ca r fs];exact q
  . obtain⟨its,r,pl,hz⟩:=I.tuple hq
    refine SeqAt.in_tupleAt (eqU x) pl (fun w hw=>md rx fx r fs w (by simpa using hw)) ⟨.bl _,H,I,rfl,?_⟩;rw[show its.toArray.any (eqU x)=its.any (eqU x) by simp,ca r fs];exact q
theorem zw:CallR X (.builtin "len") (fun xs H Q=>∃p ys,xs=[.ref p]/\(SqL X.K H p ys\/SqT X.K H p ys)/\Q (.int ys.length) H):=by
  intro pins s σ H xs us Q I r h;obtain⟨p,ys,rfl,hq,q⟩:=h;obtain⟨u,rfl,rx⟩:=re r;cases rx;have hn:=nv
  rcases hq with hq | hq
  . obtain⟨its,r',pl,hz⟩:=I.list hq
    have hlen:=r'.length;exact Calls.call_len_list pl.isList (by simp only[Zr] <;> omega) ⟨.int ys.length,H,I.tok _,⟨s.toks+1,by rw[Zr,hlen]⟩,q⟩
  . obtain⟨its,r',pl,hz⟩:=I.tuple hq
    have hlen:=r'.length;exact len_tuple pl (by simp only[Zr] <;> omega) ⟨.int ys.length,H,I.tok _,⟨s.toks+1,by rw[Zr,hlen]⟩,q⟩
theorem zbq:CallR X (.builtin "len") (fun xs H Q=>∃z,xs=[.str z]/\z.length<=sizeLine/\Q (.int z.length) H):=by
  intro pins s σ H xs us Q I r h;obtain⟨z,rfl,hz,q⟩:=h;obtain⟨u,rfl,t,rfl⟩:=re r;have hn:=nv;exact len_str (by omega) ⟨.int z.length,H,I.tok _,⟨_,rfl⟩,q⟩
theorem CallR.or{f:Value}{r r':List V->Hp->VK->Prop}(h:CallR X f r)(h':CallR X f r'):CallR X f (fun xs H Q=>r xs H Q\/r' xs H Q):=by
  intro pins s σ H xs us Q I rs q
  rcases q with q | q
  . exact h pins s σ H xs us Q I rs q
  . exact h' pins s σ H xs us Q I rs q
theorem ac:CallR X (.type "tuple") (fun xs H Q=>∃p ys,xs=[.ref p]/\((SqL X.K H p ys/\∀l,H l=none->Q (.ref l) (upd H l (.tup ys)))\/(SqT X.K H p ys/\Q (.ref p) H))):=by
  intro pins s σ H xs us Q I r h;obtain⟨p,ys,rfl,h⟩:=h;obtain⟨u,rfl,rx⟩:=re r;cases rx
  rcases h with ⟨hq,q⟩ | ⟨hq,q⟩
  . obtain⟨its,r',pl,hz⟩:=I.list hq
    have hlen:=r'.length;refine call_tuple_list pl.isList (fun h' kp => ?_) (by simp only[Zr] <;> omega);have I1:Inv X pins σ H { s with heap:=h' }:=I.kept (t':=s.toks) kp
    have I2:Inv X pins σ (upd H h'.objs.size (.tup ys)) { s with heap:=h'.push { cls:=.type "tuple", data:=.seq its.toArray } } :=
      I1.laid (t':=s.toks) (fun b o e=>Heap.get?_push_of_some _ e) (Zm _) (show ObjOk X.prog X.w _ _ _ (.tup ys) from⟨hz,its,r',IsTupD.new _ _⟩)
    exact⟨.ref h'.objs.size,_,I2,rfl,q _ (I1.hok.fresh (Zm _))⟩
  . obtain⟨its,r',pl,hz⟩:=I.tuple hq
    exact call_tuple_same pl ⟨.ref p,H,I,rfl,q⟩
def tyV(K:Fg)(T:String)(x:V)(H:Hp):Prop:=match x with
  | .str _=>T = "str"
  | .int _=>T = "int"
  | .ref p=>(T = "list" /\ ∃xs,SqL K H p xs)\/(T = "tuple" /\ ∃o,K.lookup p=some o/\o.cls=.type "tuple" /\ o.dict=none) \/
      (T = "dict" /\ ((∃kvs,H p=some (.dK kvs))\/∃kvs,H p=some (.dT kvs)))\/(T = "set" /\ ∃S n,H p=some (.set S n))
  | _=>False
theorem tyV_is{pins:List (Addr×Obj)}{σ:St}{H:Hp}{s:Shared}{T:String}{x:V}{v:Value}(I:Inv X pins σ H s)(r:RelV x v)(ty:tyV X.K T x H) :
    s.TypeIs v T/\∀a,v=.ref a->∃ob,s.heap.get? a=some ob/\ob.dict=none:=by
  cases x with
  | str z =>
    obtain⟨t,rfl⟩:=r;cases (show T = "str" from ty);exact⟨typeIs_str s z t,fun _ e=>nomatch e⟩
  | int i =>
    obtain⟨t,rfl⟩:=r;cases (show T = "int" from ty);exact⟨typeIs_int s i t,fun _ e=>nomatch e⟩
  | ref p =>
    cases r
    rcases ty with ⟨rfl,xs,hq⟩ | ⟨rfl,o,hk,hc,hd⟩ | ⟨rfl,hk⟩ | ⟨rfl,S,n,hk⟩
    . obtain⟨its,_,pl,_⟩:=I.list hq
      refine⟨pl.isList.typeIs,fun a e => ?_⟩;cases e;obtain⟨o,n,e,c,hd,_⟩:=pl;exact⟨o,e,hd⟩
    . refine⟨⟨o,I.kIn p o hk,hc⟩,fun a e => ?_⟩
      cases e;exact⟨o,I.kIn _ o hk,hd⟩
    . have z:∃o,s.heap.get? p=some o/\o.ExactDict:=by
        rcases hk with ⟨kvs,hk⟩ | ⟨kvs,hk⟩
        . obtain⟨_,_,_,_,o,_,_,e,ex,_⟩:=I.hok p _ hk
          exact⟨o,e,ex⟩
        . obtain⟨_,_,_,_,o,_,_,e,ex,_⟩:=I.hok p _ hk
          exact⟨o,e,ex⟩
      obtain⟨o,e,ex⟩:=z;refine⟨⟨o,e,ex.1⟩,fun a e2 => ?_⟩;cases e2;exact⟨o,e,ex.2.1⟩
    . obtain⟨o,_,_,_,e,ex,_⟩:=I.hok p _ hk
      refine⟨⟨o,e,ex.1⟩,fun a e2 => ?_⟩;cases e2;exact⟨o,e,ex.2.1⟩
  | _=>exact False.elim ty
def tBM0(K:Fg)(T:String)(r:V->List V->Hp->VK->Prop)(to:TE):TE:=fun σ H Q=>to σ H fun x H1=>tyV K T x H1/\r x [] H1 Q
def tBM(K:Fg)(T:String)(r:V->List V->Hp->VK->Prop)(to:TE)(t:TA):TE:=fun σ H Q=>to σ H fun x H1=>tyV K T x H1/\t σ H1 fun xs H2=>r x xs H2 Q
variable{o e:Expr}{es:List Expr}{to:TE}{t:TA}{name:Str}{apos cpos:Pos}{T id:String}{r:V->List V->Hp->VK->Prop}
theorem jb (pa:PlainAttrs T) (slot:Slot T name id) (hty:typeOf (.builtin id)=pure (.type "method_descriptor")) (hm:MtR X id r) (ho:PE X o to) (ha:PA X (e::es) t)
    (hbase:attributeBase o name X.env (eval o X.env)=eval o X.env:=by rfl)
    (hfew:((backTo cpos (starEach (e::es) X.env)).all (fun x => !x.1)&&(backToKw cpos (keywordEach [] X.env)).all (fun x=>x.1.isSome)
      && decide ((e::es).length+([]:List Keyword).length+(if ([]:List Keyword).isEmpty then 0 else 1)<30))=true:=by rfl)
    (hline:(apos.endLine==cpos.line)=true:=by rfl) (hs:starEach (e::es) X.env=(false,eval e X.env)::starEach es X.env:=by rfl) (hplain:(backTo cpos (starEach es X.env)).any (·.1)=false:=by rfl) :
    PE X (.Call (.Attribute o name apos) (e::es) [] cpos) (tBM X.K T r to t):=by
  intro pins s σ H Q I h;refine wpAny_Call_method_late hbase hfew hline rfl (thn (ho pins s σ H _ I h) fun v s1 ⟨x,H1,I1,r1,ty,q1⟩ => ?_);obtain⟨h1,h2⟩:=tyV_is I1 r1 ty;refine⟨T,id,pa,slot,hty,h1,h2,?_⟩;have hA:=ha cpos pins s1 σ H1 _ I1 q1;rw[hs]at hA ⊢;refine Calls.callWith_builtin (by show(false||(backTo cpos (starEach es X.env)).any (·.1))=false;rw[hplain] <;> rfl) (Calls.evalArgs_plain ?_);exact thn hA fun us s2 ⟨vs,H2,I2,r2,q2⟩=>hm pins s2 σ H2 x vs v us Q I2 r1 r2 q2
end
end L2
namespace L2
open PySem PySem.Spec PyProof.Rows
def MtM(X:Cx)(id:String)(r:V->List V->Hp->VK->Prop):Prop :=
  ∀(pins:List (Addr×Obj)) (s:Shared) (σ:St) (H:Hp) (x:V) (xs:List V) (v:Value) (us:List Value) (Q:VK),Inv X pins σ H s->RelV x v->Vals xs us->r x xs H Q ->
    wpAny (model X.prog X.w) X.A (call (.builtin id) (v::us)) (EP X pins σ Q) X.xe s
theorem Vals.one:∀{x:V} {us:List Value},Vals [x] us->∃u,us=[u]/\RelV x u
  | _,_,.cons r .nil=>⟨_,rfl,r⟩
theorem Vals.two:∀{x y:V} {us:List Value},Vals [x,y] us->∃u v,us=[u,v]/\RelV x u/\RelV y v
  | _,_,_,.cons r (.cons q .nil)=>⟨_,_,rfl,r,q⟩
theorem Vals.zero:∀{us:List Value},Vals [] us->us=[]
  | _,.nil=>rfl
theorem Vals.dropLast{xs:List V}{us:List Value}(h:Vals xs us):Vals xs.dropLast us.dropLast:=by
  induction h with
  | nil=>exact .nil
  | cons r t ih =>
    cases t with
    | nil=>exact .nil
    | cons q t'=>exact .cons r ih
theorem Vals.eraseIdx:∀{xs:List V} {us:List Value} (i:Nat),Vals xs us->Vals (xs.eraseIdx i) (us.eraseIdx i)
  | _,_,_,.nil=>.nil
  | _,_,0,.cons _ t=>t
  | _,_,i+1,.cons r t=>.cons r (Vals.eraseIdx i t)
theorem Vals.reverse{xs:List V}{us:List Value}(h:Vals xs us):Vals xs.reverse us.reverse:=by
  induction h with
  | nil=>exact .nil
  | cons r t ih=>rw[YF,YF];exact Vals.append ih (.cons r .nil)
section
variable{X:Cx}{pins:List (Addr×Obj)}{σ:St}{H:Hp}{s:Shared}{l b:Addr}{xs ys zs:List V}
theorem Inv.lset{its its':List Value}{n:Nat}{f:Array Value->Array Value}{t':Nat}(I:Inv X pins σ H s)(hH:H l=some (.lst xs))
    (e:s.heap.get? l=some { cls:=.type "list", data:=.seq its.toArray n }) (hf:f its.toArray=its'.toArray) (hv:Vals ys its') (hz:ys.length<=sizeLine) :
    Inv X pins σ (upd H l (.lst ys)) { s with heap:=s.heap.update l (Obj.mapSeq f),toks:=t' }:=by
  have q:=PySem.IsL.update e f;rw[hf]at q;refine I.write (x:=l) (e:=l) (by rw[hH];exact trivial) (.inl rfl) (fun b' u hb hu=>(Heap.get?_update_other s.heap (Obj.mapSeq f) (Ne.symm hb)).trans hu) ⟨_,q⟩ ?_;exact⟨hz,its',_,hv,q⟩
theorem Inv.lnew{its:List Value}{t':Nat}(I:Inv X pins σ H s)(hv:Vals ys its)(hz:ys.length<=sizeLine) :
    Inv X pins σ (upd H s.heap.objs.size (.lst ys)) { s with heap:=s.heap.push { cls:=.type "list", data:=.seq its.toArray },toks:=t' } :=
  I.laid (fun _ _ q=>Heap.get?_push_of_some _ q) (Zm _) ⟨hz,its,0,hv,Heap.get?_push_size _ rfl⟩
theorem Inv.fresh(I:Inv X pins σ H s):H s.heap.objs.size=none:=I.hok.fresh (Zm _)
theorem Inv.lstM(I:Inv X pins σ H s)(hH:H l=some (.lst xs)):xs.length<=sizeLine/\∃(its:List Value) (n:Nat),Vals xs its/\xs.length=its.length/\s.heap.get? l=some { cls:=.type "list", data:=.seq its.toArray n }:=by
  obtain⟨z,its,n,r,e⟩:=I.hok l _ hH;exact⟨z,its,n,r,r.length,e⟩
theorem zio{n:Nat}(h:n<=sizeLine):Builtin.List.listTooLong n=false:=by
  unfold Builtin.List.listTooLong;exact decide_eq_false (by omega)
end
section
variable{X:Cx}
def zcl:V->List V->Hp->VK->Prop:=fun x vs H Q=>∃l xs y,x=.ref l/\vs=[y]/\H l=some (.lst xs)/\xs.length<sizeLine/\Q .non (upd H l (.lst (xs++[y])))
theorem my:MtM X "list.append" zcl:=by
  intro pins s σ H x vs v us Q I rx rv h;obtain⟨l,xs,y,rfl,rfl,hH,hz,q⟩:=h;cases rx;obtain⟨u,rfl,ru⟩:=rv.one;obtain⟨z,its,n,r,hl,e⟩:=I.lstM hH;refine call_meets F.slot_list_append ⟨_,e,rfl⟩ F.entry_list_append (F.args_list_append_2 _ _) (PySem.list_append l its.toArray n u (by rw[Zr];omega)) ⟨e,?_⟩;refine⟨.non,_,I.lset (its':=its++[u]) hH e (by simp) (r.append (.cons ru .nil)) ?_,rfl,q⟩;rw[Zo,YN];omega
def zdr:V->List V->Hp->VK->Prop:=fun x vs H Q=>∃l b xs zs,x=.ref l/\vs=[.ref b]/\H l=some (.lst xs)/\H b=some (.lst zs)/\xs.length+zs.length<=sizeLine/\Q .non (upd H l (.lst (xs++zs)))
theorem ba:MtM X "list.extend" zdr:=by
  intro pins s σ H x vs v us Q I rx rv h;obtain⟨l,b,xs,zs,rfl,rfl,hH,hB,hz,q⟩:=h;cases rx;obtain⟨u,rfl,ru⟩:=rv.one;cases ru;obtain⟨z,its,n,r,hl,e⟩:=I.lstM hH;obtain⟨z2,its2,n2,r2,hl2,e2⟩:=I.lstM hB;have hsz:its.toArray.size+its2.toArray.size<=sizeLine:=by rw[Zr,Zr];omega
  have hlong:¬(!its.toArray.isEmpty&&Builtin.List.listTooLong (its.toArray.size+its2.toArray.size))=true:=by
    rw[zio hsz,Bool.and_false];exact Bool.false_ne_true
  refine call_meets F.slot_list_extend ⟨_,e,rfl⟩ F.entry_list_extend (F.args_list_extend_2 _ _)
    (AutoSeq1.list_extend_list_list_0 l its.toArray n b its2.toArray n2 hlong (by rw[Zr];omega) (by omega)) ⟨e,e2,?_⟩
  refine⟨.non,_,I.lset (its':=its++its2) hH e (by simp) (r.append r2) ?_,rfl,q⟩;rw[Zo];omega
def rCat:R2:=fun x y H Q=>∃l b xs zs,x=.ref l/\y=.ref b/\H l=some (.lst xs)/\H b=some (.lst zs)/\xs.length+zs.length<=sizeLine/\∀p,H p=none->Q (.ref p) (upd H p (.lst (xs++zs)))
theorem j1:OpR X (binaryOp .Add) rCat:=by
  intro pins s σ H x y v u Q I rx ry h;obtain⟨l,b,xs,zs,rfl,rfl,hH,hB,hz,q⟩:=h;cases rx;cases ry;obtain⟨z,its,n,r,hl,e⟩:=I.lstM hH;obtain⟨z2,its2,n2,r2,hl2,e2⟩:=I.lstM hB;refine PySem.P.add_list e e2 ?_ (by rw[Zr,Zr];omega);have ea:its.toArray++its2.toArray=(its++its2).toArray:=by simp
  rw[ea];exact⟨.ref _,_,I.lnew (t':=s.toks) (r.append r2) (by rw[Zo];omega),rfl,q _ I.fresh⟩
def rRep:R2:=fun x y H Q=>∃l k xs,x=.ref l/\y=.int k/\H l=some (.lst xs) /\ -(2^63)<=k/\k<2^63/\xs.length*k.toNat<=sizeLine /\
  ∀p,H p=none->Q (.ref p) (upd H p (.lst (List.replicate k.toNat xs).flatten))
end
section
variable{prog:Program}{w:World}{A:Around}{E:Value->Shared->Prop}{s:Shared}
set_option maxRecDepth 100000 in
end
section
variable{X:Cx}
end
end L2
namespace Att
open PySem PySem.W PySem.Calls PyProof.Rows
theorem d4{P:Params}{h:Heap}:∀(ns:List Int) (vs:List Value),WellAll P h vs (ns.map WData.int)->IntsAre vs ns:=by
  intro ns
  induction ns with
  | nil =>
    intro vs w;rw[YY]at w;cases w;exact .nil
  | cons n ns ih =>
    intro vs w;rw[ZM]at w
    cases w with
    | cons a b =>
      cases a;exact .cons _ _ (ih _ b)
theorem zgz{l:OpenLaw}{n:Nat}(hn:l.most=some n){P:Params}{h:Heap}{args:List WData}{vals:List Value}
    (hpre:l.row.toRowW.claim.pre args=true) (hwl:WellAll P h vals args) :
    ∃a vs ns,vals=[Value.ref a]/\args=[WData.list (ns.map WData.int)]/\h.get? a=some { cls:=.type "list", data:=.seq vs.toArray }/\IntsAre vs ns/\ns.length<=n:=by
  have hsh:WShape.hasAll [] args [.list .int]=true:=(pre_splitW hpre).1;have hc:l.pre.holds [] { args:=args }=true:=(pre_splitW hpre).2;obtain⟨d,r,rfl,h1,h2⟩:=hasAllW_cons hsh;obtain rfl:=hasAllW_nil h2;obtain⟨xs,rfl,h3⟩:=hasW_list h1;obtain⟨ns,rfl⟩:=items_int h3
  have hlen:ns.length<=n:=by
    unfold OpenLaw.pre at hc
    have h4:(WTm.not (.lt (.lit (.int (n:Int))) (.len (.arg 0)))).holds [] { args:=[.list (ns.map .int)] }=true:=by
      have h4:=(holds_andW hc).1;rw[hn]at h4;exact h4
    have h5:=condW_of h4 (w_not (w_lt w_lit (w_len_list (w_arg rfl))));rw[Za]at h5;refine Nat.le_of_not_lt fun q => ?_
    have q':(n:Int)<((ns.length:Nat):Int):=by omega
    first
      | (rw[decide_eq_true q']at h5;exact absurd h5 (by decide))
      | (simp at h5;omega)
  cases hwl with
  | cons w1 w2 =>
    cases w2
    cases w1 with
    | list ho hall=>exact⟨_,_,ns,rfl,rfl,ho,d4 ns _ hall,hlen⟩
theorem zhl(l:OpenLaw)(args:List WData):l.row.toRowW.claim.post args (.bool true) args=true :=
  postW_of (r:=l.row.toRowW) (X:=(true==true))
    (show WShape.has [] (.bool true) .bool=true by first | rfl | decide | simp[WShape.has,WShape.arms,WShape.armsAll])
    (show(WTm.eq .res (.lit (.bool true))).value [] { args:=args,res:=some (.bool true),after:=args }=some (.bool (true==true)) from w_eq_bool (w_res rfl) w_lit) rfl
theorem zcc{l:OpenLaw}{n:Nat}{q:Program}{loose:List Str}{XP:(Str->Option Value)->Heap->Prop}{YP:World->Heap->Prop}{d:DefRec}
    (hn:l.most=some n) (hdf:d.params.defaults=[])
    (call:∀(w:World) (s₀ s₁:Shared) (mg mb:Str->Option Value) (fa:Addr) (o:Obj) (pm cd doc:Value) (a:Addr) (vs:List Value) (ns:List Int),
      Ground q loose [] XP w s₀ mg mb s₁.heap->YP w s₁.heap ->
      s₁.heap.get? fa=some o->o.data=.func (docDef d.name d.params d.body d.scope pm cd doc)->s₁.heap.CodeRec cd d.name->mg d.name=some (.ref fa) ->
      s₁.heap.get? a=some { cls:=.type "list", data:=.seq vs.toArray }->IntsAre vs ns->ns.length<=n->s₁.gens = #[] ->
      codeAny (model l.prog w) callerA (.call (.ref fa) ⟨[.ref a],[]⟩) (fun r s'=>r=.ok (.ret (.bool true))/\OldK s₁.heap s'.heap/\s'.os=s₁.os/\AllBare s'.gens) s₁) :
    WalkO q loose XP YP l.row.toRowW d [] (fun f vs=>PySem.call f vs):=by
  intro w s₀ s₁ mg mb G Y fa o pm cd doc dV kV ho hd hcd hD hmg hg args vals as hpre hlay hrd hwl hlo;obtain rfl:dV=.none:=Dflts.none hD hdf;obtain rfl:kV=.none:=Dflts.noKw hD;obtain⟨a,vs,ns,rfl,rfl,hobj,hints,hlen⟩:=zgz hn hpre hwl;refine enter_call (codeAny_mono (call w s₀ s₁ mg mb fa o pm cd doc a vs ns G Y ho (fd_plain hd) hcd hmg hobj hints hlen hg) fun r s' hq => ?_);obtain⟨rfl,h2,h3,h4⟩:=hq;exact⟨.inl ⟨.bool true,.bool true,[],rfl,fun _=>rfl,.bool true,zhl l _,fun _=>⟨List.Pairwise.nil,fun _ hm=>(nomatch hm)⟩⟩,h2,h3,h4⟩
section
variable{prog:Program}{w:World}{A:Around}{E:Value->Shared->Prop}{s:Shared}{K:Frag}
def ledger(h:Heap)(L d:Addr):List (Addr×Obj):=(List.range h.objs.size).filterMap fun a=>if a=L\/a=d then none else(h.get? a).map fun o=>(a,o)
end
end Att
namespace L2
open PySem PySem.Spec PyProof.Rows
theorem bt:∀{vs:List Value} {ns:List Int},IntsAre vs ns->Vals (ns.map V.int) vs
  | _,_,.nil=>.nil
  | _,_,.cons n t h=>.cons ⟨t,rfl⟩ (bt h)
def Only(H:Hp):Prop:=∀b,H b=none\/∃o xs,H b=some (.frz o (.lst xs))
theorem zis{P:Program}{w:World}{K:Fg}{mg mb:Str->Option Value}{CX:CXT}{k:Nat}{fa a:Addr}{fd:FuncData}{x:Str}{sp:Sp}{s₁:Shared}{vs:List Value}{ns:List Int}
    (KX:K.In s₁.heap) (hns:s₁.heap.Ns mainGlobals mg) (hb:s₁.heap.Ns builtinsNs mb) (hbb:∀x:Str,x ≠ "__name__" -> mb x=bootBuiltins x) (hlim:s₁.heap.NoLimit) (hg:s₁.gens = #[])
    (ha:s₁.heap.get? a=some { cls:=.type "list", data:=.seq vs.toArray }) (hi:IntsAre vs ns) (hl:ns.length<=sizeLine) (hr:Room k callerA)
    (F:∀base:Heap,K.In base->base.Ns mainGlobals mg->FnOk P w K mg base CX k fa fd [x] sp) (hbind:∀(s:Shared) (u:Value),BindsTo s fd ⟨[u],[]⟩ [(x,u)])
    (hsp:∀H:Hp,Only H->SqL K H a (ns.map V.int)->sp [.ref a] H (fun v _=>v=.bl true) fun _ _ _=>False)
    (hCX:∀H e s',CX [] H s₁ (fun _ _ _=>False) e s'->False) :
    codeAny (model P w) callerA (.call (.ref fa) ⟨[.ref a],[]⟩) (fun r s'=>r=.ok (.ret (.bool true))/\OldK s₁.heap s'.heap/\s'.os=s₁.os/\AllBare s'.gens) s₁:=by
  have rv:=bt hi;have lenV:=hi.length
  -- from an abstract heap in which nothing but the script may be tracked
  have core:∀H:Hp,Only H->SqL K H a (ns.map V.int)->HOk P w H s₁.heap->(∀b,H b≠none->b=a)->(H a≠none->K.lookup a=none) ->
      codeAny (model P w) callerA (.call (.ref fa) ⟨[.ref a],[]⟩) (fun r s'=>r=.ok (.ret (.bool true))/\OldK s₁.heap s'.heap/\s'.os=s₁.os/\AllBare s'.gens) s₁:=by
    intro H hO hS hok hA hK;have base_of:∀{b:Addr} {o:Obj},s₁.heap.get? b=some o->H b=none->(hidT s₁.heap H).get? b=some o:=fun e n=>zie e n
    have noA:∀{b:Addr} {o:Obj} {es:Array DictEntry} {ep:Nat},s₁.heap.get? b=some o->o.data=.dict es ep->H b=none:=fun {b o es ep} e d=>by
      cases q:H b with
      | none=>rfl
      | some u =>
        have e':b=a:=hA b (by rw[q];simp);subst e';rw[ha]at e;cases e;have d':Data.seq vs.toArray _=Data.dict es ep:=d;cases d'
    have nsK:∀{b:Addr} {m:Str->Option Value},s₁.heap.Ns b m->(hidT s₁.heap H).Ns b m:=fun {b m} ⟨o,es,ep,e,d,r⟩=>⟨o,es,ep,base_of e (noA e d),d,r⟩
    have hKb:K.In (hidT s₁.heap H):=fun b o e=>base_of (KX b o e) (by
      cases q:H b with
      | none=>rfl
      | some u =>
        have e':b=a:=hA b (by rw[q];simp);subst e'
        rw[hK (by rw[q];simp)]at e;cases e)
    have hM:Mod K mg (hidT s₁.heap H):=⟨hKb,nsK hns,⟨mb,nsK hb,hbb⟩,let ⟨mc,h1,h2⟩:=hlim;⟨mc,nsK h1,h2⟩⟩;have e0:Env0 P w K mg (hidT s₁.heap H) callerA [] s₁ H:=⟨rfl,hM,fun b o e=>zjl e,Nat.le_of_eq (zfv _ _),trivial,fun b hb=>absurd (show b∈([]:List Addr) from hb) (by simp),hok,.of_eq hg⟩;refine codeAny_mono ((F _ hKb (nsK hns)).run callerA [] s₁ H ⟨[.ref a],[]⟩ [.ref a] [.ref a] _ _ hr e0 (hbind s₁ (.ref a)) (.cons rfl .nil) (hsp H hO hS)) fun r s' h => ?_
    cases r with
    | error e=>exact(hCX H e s' h).elim
    | ok fl =>
      cases fl with
      | next=>exact False.elim h
      | brk=>exact False.elim h
      | cont=>exact False.elim h
      | ret u =>
        obtain⟨v,H',os,bare,un,hok',r',q⟩:=h;have q':v=.bl true:=q;subst q';obtain rfl:u=Value.bool true:=r';refine⟨rfl,OldK.of_keep fun b o e => ?_,os,bare⟩
        cases q:H b with
        | none=>exact un.keep b o e q (by intro z;exact absurd (show b∈([]:List Addr) from z) (by simp)) (by simp)
        | some u =>
          rcases hO b with z | ⟨ob,xs,z⟩
          . rw[q]at z;cases z
          . have z2:=un.frzs b ob _ z
            obtain⟨e1,_⟩:=hok b _ z;obtain⟨e2,_⟩:=hok' b _ z2;rw[e]at e1;cases e1;exact e2
  cases hk:K.lookup a with
  | some o =>
    -- the script is one of the module's own objects
    have e:=KX a o hk;rw[ha]at e;cases e;refine core (fun _=>none) (fun _=>.inl rfl) (.inr ⟨_,vs.toArray,_,hk,rfl,rfl,rfl,by rw[Zr,lenV];exact hl,by simpa using rv⟩) (fun b u z=>by have z':(none:Option HO)=some u:=z;cases z') (fun b z=>absurd rfl z) fun z=>absurd rfl z
  | none =>
    refine core (fun b=>if b=a then some (.frz { cls:=.type "list", data:=.seq vs.toArray } (.lst (ns.map V.int))) else none) (fun b => ?_) (.inl (.inr ⟨{ cls:=.type "list", data:=.seq vs.toArray },if_pos rfl⟩)) (fun b u z => ?_) (fun b z => ?_) fun _=>hk
    . by_cases hb:b=a
      . exact .inr ⟨_,_,if_pos hb⟩
      . exact .inl (if_neg hb)
    . by_cases hb:b=a
      . have z':=(if_pos hb).symm.trans z
        cases z';subst hb;exact⟨ha,by rw[Za];exact hl,vs,_,rv,ha⟩
      . have z':=(if_neg hb).symm.trans z
        cases z'
    . by_cases hb:b=a
      . exact hb
      . exact absurd (if_neg hb) z
end L2
namespace L2
open PySem PySem.Spec PyProof.Rows
abbrev KOf{K:Fg}{h:Heap}(_:K.In h):Fg:=K
theorem zj2{l:PySem.W.OpenLaw}{n k:Nat}{q:Program}{loose:List Str}{XP:(Str->Option Value)->Heap->Prop}{YP:World->Heap->Prop}{d:DefRec}{K:Params->Fg}{CX:World->CXT}{sp:World->Sp}{x:Str}
    (hn:l.most=some n) (hn2:n<=sizeLine) (hdf:d.params.defaults=[]) (hr:Room k callerA)
    (hY:∀(w:World) (h:Heap),YP w h->(K w.params).In h)
    (F:∀(w:World) (mg:Str->Option Value) (fa:Addr) (h:Heap),(K w.params).In h->h.Ns mainGlobals mg->mg d.name=some (.ref fa) ->
      ∃fd:FuncData,(∀(s:Shared) (u:Value),BindsTo s fd ⟨[u],[]⟩ [(x,u)]) /\
        ∀base:Heap,(K w.params).In base->base.Ns mainGlobals mg->FnOk l.prog w (K w.params) mg base (CX w) k fa fd [x] (sp w))
    (hsp:∀(w:World) (H:Hp) (a:Addr) (ns:List Int),ns.length<=n->Only H->SqL (K w.params) H a (ns.map V.int)->sp w [.ref a] H (fun v _=>v=.bl true) fun _ _ _=>False)
    (hCX:∀(w:World) (H:Hp) (s:Shared) (e:Value) (s':Shared),CX w [] H s (fun _ _ _=>False) e s'->False) :
    PySem.W.WalkO q loose XP YP l.row.toRowW d [] (fun f vs=>PySem.call f vs):=by
  refine Att.zcc hn hdf fun w s₀ s₁ mg mb fa o pm cd doc a vs ns G Y ho hd hcd hmg hobj hints hlen hg => ?_
  have KX:=hY w _ Y;obtain⟨fd,hb,hF⟩:=F w mg fa _ KX G.T.g hmg;exact zis KX G.T.g G.T.b G.T.builtins G.T.nolimit hg hobj hints (Zd hlen hn2) hr hF hb (fun H hO hS=>hsp w H a ns hlen hO hS) fun H e s'=>hCX w H s₁ e s'
theorem ziz{l:PySem.W.OpenLaw}{n k:Nat}{q:Program}{loose:List Str}{XP:(Str->Option Value)->Heap->Prop}{YP:World->Heap->Prop}{d:DefRec}{K:Params->Fg}{CX:CXT}{sp:Fg->Sp}{x:Str}
    (hn:l.most=some n) (hn2:n<=sizeLine) (hdf:d.params.defaults=[]) (hr:Room k callerA)
    (hY:∀(w:World) (h:Heap),YP w h->(K w.params).In h)
    (F:∀(w:World) (mg:Str->Option Value) (fa:Addr) (h:Heap),(K w.params).In h->h.Ns mainGlobals mg->mg d.name=some (.ref fa) ->
      ∃fd:FuncData,(∀(s:Shared) (u:Value),BindsTo s fd ⟨[u],[]⟩ [(x,u)]) /\
        ∀base:Heap,(K w.params).In base->base.Ns mainGlobals mg->FnOk l.prog w (K w.params) mg base CX k fa fd [x] (sp (K w.params)))
    (hsp:∀(K:Fg) (H:Hp) (a:Addr) (ns:List Int),ns.length<=n->Only H->SqL K H a (ns.map V.int)->sp K [.ref a] H (fun v _=>v=.bl true) fun _ _ _=>False)
    (hCX:∀(H:Hp) (s:Shared) (e:Value) (s':Shared),CX [] H s (fun _ _ _=>False) e s'->False) :
    PySem.W.WalkO q loose XP YP l.row.toRowW d [] (fun f vs=>PySem.call f vs) :=
  zj2 (K:=K) (CX:=fun _=>CX) (sp:=fun w=>sp (K w.params)) hn hn2 hdf hr hY F (fun w H a ns h1 h2 h3=>hsp (K w.params) H a ns h1 h2 h3) fun _ H s e s'=>hCX H s e s'
end L2
namespace L2
open PySem PySem.Spec PyProof.Rows
def tm(s:Stmt):Arguments:=match s with
  | .FunctionDef _ a _ _ _ _ _ _ _ _=>a
  | _=>{ posonlyargs:=[],args:=[],vararg:=none,kwonlyargs:=[],kw_defaults:=[],kwarg:=none,defaults:=[] }
def yy(s:Stmt):List Stmt:=match s with
  | .FunctionDef _ _ b _ _ _ _ _ _ _=>b
  | _=>[]
def zl(s:Stmt):Scope:=match s with
  | .FunctionDef _ _ _ _ _ _ sc _ _ _=>sc
  | _=>{ kind:=.function,names:=[],isGenerator:=false,isCoroutine:=false }
abbrev CX0:CXT:=fun _ _ _ _ _ _=>False
abbrev E0:XK:=fun _ _ _=>False
theorem pass0{X:Cx}:ik CX0 X E0:=fun _ _ _ _ _ _ _ h=>h.elim
structure Fun(K:Fg)(x qual:Str)(st:Stmt)(f:Addr)(fd:FuncData):Prop where
  ex:∃(oc:Value) (od:Option Addr) (kV doc pm:Value) (an:Option Addr) (cdv ct:Value) (osl:Array (Option Value)),
    fd=PySem.W.fnOf x qual (tm st) (yy st) (zl st) .none kV doc pm an cdv ct/\K.lookup f=some ⟨oc,od,.func fd,osl⟩/\PySem.W.codeIn K cdv qual=true
  kp:PySem.W.keepIn K (.ref f)=true
section
variable{P:Program}{w:World}{K:Fg}{mg:Str->Option Value}{base:Heap}
theorem Fun.ok{x qual:Str}{st:Stmt}{f:Addr}{fd:FuncData}{N ps:List Str}{k:Nat}{sp:Sp}(F:Fun K x qual st f fd)(S:zq N ps (zl st))(len:∀vs H Q E,sp vs H Q E->vs.length=ps.length)
    (hbody:∀(cdv:Value) (A:Around) (outer:List Env) (s:Shared) (H:Hp) (vs:List V) (Q:VK) (E:XK),Room k (A.deeper (envOfC qual (zl st) s.heap.objs.size f cdv))->sp vs H Q E ->
      ∃t,PSs (cxOf CX0 P w K mg base N qual (zl st) f cdv A outer s H E).nox (yy st) t/\t { nx:=fun _ H'=>Q .non H',rt:=Q } (start N vs) H):FnOk P w K mg base CX0 (k+1) f fd ps sp:=by
  obtain⟨oc,od,kV,doc,pm,an,cdv,ct,osl,rfl,lk,hcd⟩:=F.ex;refine fn_of lk hcd S len fun A outer s H vs Q E hr hsp => ?_
  obtain⟨t,h,q⟩:=hbody cdv A outer s H vs Q E hr hsp;exact⟨t,h.nox,q⟩
theorem Fun.binds{x qual:Str}{st:Stmt}{f:Addr}{fd:FuncData}{ps:List Str}(F:Fun K x qual st f fd)
    (h:∀(kV doc pm:Value) (an:Option Addr) (cdv ct:Value) (us:List Value),us.length=ps.length->bindArgs (PySem.W.fnOf x qual (tm st) (yy st) (zl st) .none kV doc pm an cdv ct) ⟨us,[]⟩=pure (ps.zip us)):Binds K fd ps []:=by
  obtain⟨oc,od,kV,doc,pm,an,cdv,ct,osl,rfl,lk,hcd⟩:=F.ex;exact .all (h kV doc pm an cdv ct)
theorem zfs{x qual:Str}{st:Stmt}{f:Addr}{oc:Value}{od an:Option Addr}{osl:Array (Option Value)}{kV doc pm cdv ct:Value}(l:K.lookup f=some ⟨oc,od,.func (PySem.W.fnOf x qual (tm st) (yy st) (zl st) .none kV doc pm an cdv ct),osl⟩)
    (c:PySem.W.codeIn K cdv qual=true) (k:PySem.W.keepIn K (.ref f)=true):Fun K x qual st f (PySem.W.fnOf x qual (tm st) (yy st) (zl st) .none kV doc pm an cdv ct):=⟨⟨oc,od,kV,doc,pm,an,cdv,ct,osl,rfl,l,c⟩,k⟩
end
section
variable{X:Cx}
theorem pv (i:Nat) {x:Str} {pos:Pos} (hN:X.N[i]? = some x:=by rfl) (hv:Vis X.env.scope x:=by first | exact Or.inl rfl | exact Or.inr (Or.inl rfl) | exact Or.inr (Or.inr rfl)) (hd:(x==("__debug__" : Str))=false:=by decide)
    (hcd:(x==("__classdict__" : Str))=false:=by decide):PE X (.Name x pos) (tVar i):=pe_var hN hv hd hcd
end
theorem iteF{A B:Prop}(h:B):if false=true then A else B:=by
  rw[if_neg Bool.false_ne_true];exact h
theorem iteT{A B:Prop}(h:A):if true=true then A else B:=by
  rw[if_pos rfl];exact h
theorem ite2{c A B:Prop}[Decidable c](h1:c->A)(h2:¬c->B):if c then A else B:=by
  by_cases h:c
  . rw[if_pos h]
    exact h1 h
  . rw[if_neg h]
    exact h2 h
theorem zfd{c A B:Prop}[Decidable c](hc:c)(h:B):if (!decide c)=true then A else B:=by
  rw[decide_eq_true hc];exact iteF h
def Same(H H':Hp):Prop:=∀b o,H b=some o->H' b=some o
theorem Same.refl(H:Hp):Same H H:=fun _ _ h=>h
theorem Same.trans{H H1 H2:Hp}(a:Same H H1)(b:Same H1 H2):Same H H2:=fun c o h=>b c o (a c o h)
theorem Same.free{H H':Hp}(e:Same H H'){l:Addr}(h:H' l=Option.none):H l=Option.none:=by
  cases q:H l with
  | none=>rfl
  | some o =>
    rw[e l o q]at h;cases h
theorem Same.seq{K:Fg}{H H':Hp}{a:Addr}{xs:List V}(e:Same H H')(h:SqL K H a xs):SqL K H' a xs:=by
  rcases h with (h | ⟨o,h⟩) | h
  . exact .inl (.inl (e _ _ h))
  . exact .inl (.inr ⟨o,e _ _ h⟩)
  . exact .inr h
end L2
namespace L2
open PySem PySem.Spec PyProof.Rows
section
variable{κ:Type}[DecidableEq κ]
def valV(kvs:List (κ×V))(k:κ):Option V:=(kvs.find? fun kv=>decide (kv.1=k)).map (·.2)
def putK(kvs:List (κ×V))(k:κ)(v:V):List (κ×V) :=
  if (kvs.any fun kv=>decide (kv.1=k))=true then kvs.map (fun kv=>if kv.1=k then(kv.1,v) else kv) else kvs++[(k,v)]
def dropK(kvs:List (κ×V))(k:κ):List (κ×V):=kvs.filter fun kv=>decide (kv.1≠k)
theorem r9{p:κ×V}{r:List (κ×V)}{k:κ}(e:p.1=k):valV (p::r) k=some p.2:=by simp[valV,Yn,e]
theorem tj{p:κ×V}{r:List (κ×V)}{k:κ}(e:¬p.1=k):valV (p::r) k=valV r k:=by simp[valV,Yn,e]
theorem qf(k:κ):∀kvs:List (κ×V),(kvs.any fun kv=>decide (kv.1=k))=(valV kvs k).isSome
  | []=>rfl
  | p::r=>by
    rw[YJ]
    by_cases e:p.1=k
    . simp only[r9 e,decide_eq_true e,Bool.true_or,Option.isSome_some]
    . rw[tj e,decide_eq_false e,Bool.false_or];exact qf k r
theorem u3(kvs:List (κ×V))(k:κ)(v:V):(putK kvs k v).length<=kvs.length+1:=by
  unfold putK
  split
  . rw[Za];omega
  . rw[Zo,ZN,ZX];omega
theorem ji{kvs:List (κ×V)}{k:κ}(v:V)(h:valV kvs k=none):putK kvs k v=kvs++[(k,v)]:=by
  unfold putK;rw[qf,h];exact if_neg (by decide)
theorem RelO.isSome_eq{o:Option V}{u:Option Value}(r:RelO o u):o.isSome=u.isSome:=by
  cases o with
  | none=>cases u with
    | none=>rfl
    | some _=>exact(show False from r).elim
  | some _=>cases u with
    | none=>exact(show False from r).elim
    | some _=>rfl
theorem RelO.getD{o:Option V}{u:Option Value}{d:V}{d':Value}(r:RelO o u)(rd:RelV d d'):RelV (o.getD d) (u.getD d'):=by
  cases o with
  | none=>cases u with
    | none=>exact rd
    | some _=>exact(show False from r).elim
  | some _=>cases u with
    | none=>exact(show False from r).elim
    | some _=>exact r
theorem KV.val{kvs:List (κ×V)}{vs:List (κ×Value)}(r:KV kvs vs)(k:κ):RelO (valV kvs k) (valueAt vs k):=by
  unfold KV at r
  induction r with
  | nil=>exact True.intro
  | @cons p q ps qs h t ih =>
    obtain⟨h1,h2⟩:=h
    by_cases e:p.1=k
    . have e':q.1=k:=h1.symm.trans e
      have b:valueAt (q::qs) k=some q.2:=by simp[valueAt,Yn,e']
      rw[r9 e,b];exact h2
    . have e':¬q.1=k:=fun z=>e (h1.trans z)
      have b:valueAt (q::qs) k=valueAt qs k:=by simp[valueAt,Yn,e']
      rw[tj e,b];exact ih
theorem KV.any{kvs:List (κ×V)}{vs:List (κ×Value)}(r:KV kvs vs)(k:κ):(kvs.any fun kv=>decide (kv.1=k))=vs.any fun kv=>decide (kv.1=k):=by
  unfold KV at r
  induction r with
  | nil=>rfl
  | cons h t ih=>rw[YJ,YJ,ih,h.1]
theorem KV.repl{kvs:List (κ×V)}{vs:List (κ×Value)}(r:KV kvs vs)(k:κ){y:V}{u:Value}(ry:RelV y u) :
    KV (kvs.map fun kv=>if kv.1=k then(kv.1,y) else kv) (vs.map fun kv=>if kv.1=k then(kv.1,u) else kv):=by
  unfold KV at r ⊢
  induction r with
  | nil=>exact .nil
  | @cons p q ps qs h t ih =>
    rw[ZM,ZM];refine .cons ?_ ih;obtain⟨h1,h2⟩:=h
    by_cases e:p.1=k
    . rw[if_pos e,if_pos (h1.symm.trans e)];exact⟨h1,ry⟩
    . rw[if_neg e,if_neg (fun z=>e (h1.trans z))];exact⟨h1,h2⟩
theorem KV.put{kvs:List (κ×V)}{vs:List (κ×Value)}(r:KV kvs vs)(k:κ){y:V}{u:Value}(ry:RelV y u):KV (putK kvs k y) (stored vs k u):=by
  unfold putK stored;rw[r.any k]
  by_cases e:(vs.any fun kv=>decide (kv.1=k))=true
  . rw[if_pos e,if_pos e];exact r.repl k ry
  . rw[if_neg e,if_neg e];exact Paired.snoc r ⟨rfl,ry⟩
theorem KV.drop{kvs:List (κ×V)}{vs:List (κ×Value)}(r:KV kvs vs)(k:κ):KV (dropK kvs k) (without vs k):=by
  unfold KV at r ⊢;unfold dropK without
  induction r with
  | nil=>exact .nil
  | @cons p q ps qs h t ih =>
    obtain⟨h1,h2⟩:=h;rw[List.filter_cons,List.filter_cons]
    by_cases e:p.1=k
    . have a:¬decide (p.1≠k)=true:=by simp[e]
      have b:¬decide (q.1≠k)=true:=by simp[h1.symm.trans e]
      rw[if_neg a,if_neg b];exact ih
    . have e':¬q.1=k:=fun z=>e (h1.trans z)
      have a:decide (p.1≠k)=true:=by simp[e]
      have b:decide (q.1≠k)=true:=by simp[e']
      rw[if_pos a,if_pos b];exact .cons ⟨h1,h2⟩ ih
theorem KV.keys{kvs:List (κ×V)}{vs:List (κ×Value)}(r:KV kvs vs):kvs.map (·.1)=vs.map (·.1):=by
  unfold KV at r
  induction r with
  | nil=>rfl
  | cons h t ih=>rw[ZM,ZM,ih,h.1]
theorem KV.length{kvs:List (κ×V)}{vs:List (κ×Value)}(r:KV kvs vs):kvs.length=vs.length:=Paired.length r
end
theorem de{P:Program}{w:World}{k:Key}{u:Value}(r:RelV (kV k) u):(yw P w).is k u=true:=by
  cases k with
  | inl i=>obtain⟨t,e⟩:=(show ∃t,u=Value.int i t from r);subst e;exact zck P w i t
  | inr x=>obtain⟨t,e⟩:=(show ∃t,u=Value.str x t from r);subst e;exact zcd P w x t
theorem bq{P:Program}{w:World}:∀{ks:List Key} {us:List Value},Vals (ks.map kV) us->ItemsAre (yw P w) ks us
  | [],_,r=>by rw[YY]at r;cases r;exact .nil
  | k::ks,_,r=>by
    rw[ZM]at r
    cases r with
    | cons h t=>exact .cons (de h) (bq t)
abbrev KT(H:Hp):List (List Key×V)->List (List Key×Addr×Value)->Prop:=Paired fun p q=>p.1=q.1/\H q.2.1=some (.tup (p.1.map kV))/\RelV p.2 q.2.2
theorem KT.val{H:Hp}{kvs:List (List Key×V)}{xs:List (List Key×Addr×Value)}(r:KT H kvs xs)(k:List Key):RelO (valV kvs k) ((atKey xs k).map (·.2)):=by
  induction r with
  | nil=>exact True.intro
  | @cons p q ps qs h t ih =>
    obtain⟨h1,_,h2⟩:=h
    by_cases e:p.1=k
    . have e':q.1=k:=h1.symm.trans e
      have b:atKey (q::qs) k=some q.2:=by simp[atKey,Yn,e']
      rw[r9 e,b];exact h2
    . have e':¬q.1=k:=fun z=>e (h1.trans z)
      have b:atKey (q::qs) k=atKey qs k:=by simp[atKey,Yn,e']
      rw[tj e,b];exact ih
theorem KT.repl{H:Hp}{kvs:List (List Key×V)}{xs:List (List Key×Addr×Value)}(r:KT H kvs xs)(k:List Key){y:V}{u:Value}(ry:RelV y u) :
    KT H (kvs.map fun kv=>if kv.1=k then(kv.1,y) else kv) (xs.map (putAt k u)):=by
  induction r with
  | nil=>exact .nil
  | @cons p q ps qs h t ih =>
    rw[ZM,ZM];refine .cons ?_ ih;obtain⟨h1,h2,h3⟩:=h;unfold putAt
    by_cases e:p.1=k
    . rw[if_pos e,if_pos (h1.symm.trans e)];exact⟨h1,h2,ry⟩
    . rw[if_neg e,if_neg (fun z=>e (h1.trans z))];exact⟨h1,h2,h3⟩
theorem KT.put{H:Hp}{kvs:List (List Key×V)}{xs:List (List Key×Addr×Value)}(r:KT H kvs xs)(k:List Key){b:Addr}{y:V}{u:Value}(hb:H b=some (.tup (k.map kV)))(ry:RelV y u) :
    KT H (putK kvs k y) (storedH xs k b u):=by
  have e:(kvs.any fun kv=>decide (kv.1=k))=(atKey xs k).isSome:=by
    rw[qf,(r.val k).isSome_eq,Option.isSome_map]
  unfold putK storedH;rw[e]
  by_cases q:(atKey xs k).isSome=true
  . rw[if_pos q,if_pos q];exact r.repl k ry
  . rw[if_neg q,if_neg q];exact Paired.snoc r ⟨rfl,hb,ry⟩
theorem KT.keeps{H H':Hp}{kvs:List (List Key×V)}{xs:List (List Key×Addr×Value)}(r:KT H kvs xs)(ht:∀b ys,H b=some (.tup ys)->H' b=some (.tup ys)):KT H' kvs xs :=
  Paired.mapP r fun _ _ z=>⟨z.1,ht _ _ z.2.1,z.2.2⟩
section
variable{P:Program}{w:World}{H:Hp}{h:Heap}{a:Addr}
theorem rd_of{u:HO}(ok:HOk P w H h)(e:Rd H a u):ObjOk P w H h a u:=e.ok ok
theorem jl{kvs:List (Key×V)}(ok:HOk P w H h)(e:Rd H a (.dK kvs)):kvs.length<=sizeLine/\(a==sysModules)=false/\∃vs,KV kvs vs/\h.DictOf (yw P w) a vs :=
  show ObjOk P w H h a (.dK kvs) from rd_of ok e
theorem dk_of{kvs:List (Key×V)}(ok:HOk P w H h)(e:H a=some (.dK kvs)):kvs.length<=sizeLine/\(a==sysModules)=false/\∃vs,KV kvs vs/\h.DictOf (yw P w) a vs:=jl ok (.inl e)
theorem ku{ks:List Key}(ok:HOk P w H h)(e:H a=some (.tup (ks.map kV))):(tupleKind (yw P w)).is h ks a:=by
  obtain⟨_,its,r,o,h1,h2,n,h3⟩:=(show ObjOk P w H h a (.tup (ks.map kV)) from ok a _ e);exact⟨o,its.toArray,n,h1,h2,h3.1,by simpa using bq r⟩
theorem iq{kvs:List (List Key×V)}(ok:HOk P w H h)(e:Rd H a (.dT kvs)):kvs.length<=sizeLine/\(a==sysModules)=false /\
    ∃xs,KT H kvs xs/\h.DictOfH (tupleKind (yw P w)) a xs:=by
  obtain⟨z,y,xs,r,o,es,ep,h1,h2,h3,h4,h5⟩:=(show ObjOk P w H h a (.dT kvs) from rd_of ok e);refine⟨z,y,xs,r,o,es,ep,h1,h2,h3,h4,fun x hx => ?_,h5⟩
  have all:∀{l:List (List Key×V)} {m:List (List Key×Addr×Value)},KT H l m->∀x∈m,(tupleKind (yw P w)).is h x.1 x.2.1:=by
    intro l m q
    induction q with
    | nil=>intro x hx;exact nomatch hx
    | @cons p q ps qs hq t ih =>
      intro x hx
      rcases ZK.mp hx with e | hx
      . subst e
        exact ku ok (by rw[<-hq.1];exact hq.2.1)
      . exact ih x hx
  exact all r x hx
theorem dt_of{kvs:List (List Key×V)}(ok:HOk P w H h)(e:H a=some (.dT kvs)):kvs.length<=sizeLine/\(a==sysModules)=false /\
    ∃xs,KT H kvs xs/\h.DictOfH (tupleKind (yw P w)) a xs:=iq ok (.inl e)
end
def DGet(H:Hp)(a:Addr)(y:V)(r:Option V):Prop :=
  (∃kvs k,Rd H a (.dK kvs)/\y=kV k/\r=valV kvs k)\/∃kvs k b,Rd H a (.dT kvs)/\y=.ref b/\H b=some (.tup (k.map kV))/\r=valV kvs k
def DPut(H:Hp)(a:Addr)(y v:V)(H':Hp):Prop :=
  (∃kvs k,H a=some (.dK kvs)/\y=kV k/\kvs.length<sizeLine/\H'=upd H a (.dK (putK kvs k v))) \/
  ∃kvs k b,H a=some (.dT kvs)/\y=.ref b/\H b=some (.tup (k.map kV))/\kvs.length<sizeLine/\H'=upd H a (.dT (putK kvs k v))
theorem DGet.k{H:Hp}{a:Addr}{kvs:List (Key×V)}{k:Key}(e:H a=some (.dK kvs)):DGet H a (kV k) (valV kvs k):=.inl ⟨kvs,k,.inl e,rfl,rfl⟩
theorem DGet.t{H:Hp}{a b:Addr}{kvs:List (List Key×V)}{k:List Key}(e:H a=some (.dT kvs))(eb:H b=some (.tup (k.map kV))):DGet H a (.ref b) (valV kvs k):=.inr ⟨kvs,k,b,.inl e,rfl,eb,rfl⟩
theorem DPut.k{H:Hp}{a:Addr}{kvs:List (Key×V)}{k:Key}{v:V}(e:H a=some (.dK kvs))(hl:kvs.length<sizeLine):DPut H a (kV k) v (upd H a (.dK (putK kvs k v))):=.inl ⟨kvs,k,e,rfl,hl,rfl⟩
theorem DPut.t{H:Hp}{a b:Addr}{kvs:List (List Key×V)}{k:List Key}{v:V}(e:H a=some (.dT kvs))(eb:H b=some (.tup (k.map kV)))(hl:kvs.length<sizeLine) :
    DPut H a (.ref b) v (upd H a (.dT (putK kvs k v))):=.inr ⟨kvs,k,b,e,rfl,eb,hl,rfl⟩
section
variable{X:Cx}{pins:List (Addr×Obj)}{σ:St}{H:Hp}{s:Shared}{a:Addr}{y v:V}{u r:Value}{o:Option V}{A:Around}{E:Value->Shared->Prop}
theorem Inv.big(I:Inv X pins σ H s):sysModules<s.heap.objs.size:=by
  have h:mainGlobals<s.heap.objs.size:=(I.mod.glob.keeps I.bk).lt;exact Nat.lt_trans (by decide) h
theorem zhk{Q:Value->Shared->Prop}(hu:A.units+1<cLine)(I:Inv X pins σ H s)(g:DGet H a y (some v))(ry:RelV y u)(h:∀w' s',Inv X pins σ H s'->RelV v w'->Q w' s') :
    wpAny (model X.prog X.w) A (getItem (.ref a) u) Q E s:=by
  rcases g with ⟨kvs,k,e,ey,l⟩ | ⟨kvs,k,b,e,ey,eb,l⟩
  . subst ey
    obtain⟨z,hd,vs,rel,dd⟩:=jl I.hok e;obtain⟨w',hw,rw'⟩:=RelO.some_of (v:=v) (o:=valueAt vs k) (by rw[l];exact rel.val k);exact wpAny_getItem_of (de ry) dd.mapOf hw (h w' _ (I.tok _) rw')
  . subst ey
    cases (show u=Value.ref b from ry);obtain⟨z,hd,xs,rel,dd⟩:=iq I.hok e;obtain⟨w',hw,rw'⟩:=RelO.some_of (v:=v) (o:=(atKey xs k).map (·.2)) (by rw[l];exact rel.val k);obtain⟨p,hp,hp2⟩:=YI.mp hw;refine wpAny_getItem_heap (tupleKind_room_in1 hu) (ku I.hok eb) dd hp ?_;rw[hp2];exact h w' _ (I.tok _) rw'
theorem d_in{Q:Value->Shared->Prop}(hu:A.units+1<cLine)(I:Inv X pins σ H s)(g:DGet H a y o)(ry:RelV y u)(h:∀s',Inv X pins σ H s'->Q (.bool o.isSome) s') :
    wpAny (model X.prog X.w) A (compareOp .In u (.ref a)) Q E s:=by
  rcases g with ⟨kvs,k,e,ey,l⟩ | ⟨kvs,k,b,e,ey,eb,l⟩
  . subst ey
    obtain⟨z,hd,vs,rel,dd⟩:=jl I.hok e;refine wpAny_in_of (de ry) hd dd.mapOf ?_;rw[<-(rel.val k).isSome_eq,<-l];exact h _ (I.tok _)
  . subst ey
    cases (show u=Value.ref b from ry);obtain⟨z,hd,xs,rel,dd⟩:=iq I.hok e;refine wpAny_in_heap (tupleKind_room_in1 hu) (ku I.hok eb) hd dd ?_;have q:=(rel.val k).isSome_eq;rw[Option.isSome_map]at q;rw[<-q,<-l];exact h _ (I.tok _)
theorem iw{h':Heap}{t':Nat}{ob:HO}(I:Inv X pins σ H s)(mu:Mut (H a))(hs:Heap.SameBut a s.heap h')(he:∃q,h'.get? a=some q)(new:ObjOk X.prog X.w (upd H a ob) h' a ob) :
    Inv X pins σ (upd H a ob) { s with heap:=h',toks:=t' } :=
  I.write (x:=a) (e:=a) mu (.inl rfl) (fun b q hb z=>(hs.2 b hb).trans z) he new
theorem dk_new{P:Program}{w:World}{H':Hp}{h':Heap}{kvs:List (Key×V)}{vs:List (Key×Value)}(z:kvs.length<=sizeLine)(hd:(a==sysModules)=false)(rel:KV kvs vs)(dd:h'.DictOf (yw P w) a vs) :
    ObjOk P w H' h' a (.dK kvs):=⟨z,hd,vs,rel,dd⟩
theorem zfu{H':Hp}{Q:Unit->Shared->Prop}(hu:A.units+1<cLine)(I:Inv X pins σ H s)(g:DPut H a y v H')(ry:RelV y u)(rv:RelV v r)(h:∀s',Inv X pins σ H' s'->Q () s') :
    wpAny (model X.prog X.w) A (setItem (.ref a) u r) Q E s:=by
  rcases g with ⟨kvs,k,e,ey,l,eH⟩ | ⟨kvs,k,b,e,ey,eb,l,eH⟩
  . subst ey eH
    obtain⟨z,hd,vs,rel,dd⟩:=dk_of I.hok e;have hz:vs.length<=sizeLine:=by rw[<-rel.length];exact z
    have hl:(putK kvs k v).length<=sizeLine:=by have:=u3 kvs k v;omega
    refine wpAny_setItem_pairs (hsz:=hz) (de ry) dd fun h' dd' hs=>h _ ?_
    have he:∃q,h'.get? a=some q:=let ⟨q,_,_,hq,_⟩:=dd';⟨q,hq⟩;exact iw I (by rw[e];exact True.intro) hs he (dk_new hl hd (rel.put k rv) dd')
  . subst ey eH
    cases (show u=Value.ref b from ry);obtain⟨z,hd,xs,rel,dd⟩:=dt_of I.hok e;have hz:xs.length<=sizeLine:=by rw[<-Paired.length rel];exact z
    have hl:(putK kvs k v).length<=sizeLine:=by have:=u3 kvs k v;omega
    refine wpAny_setItem_heap (hsz:=hz) (tupleKind_room_in1 hu) (ku I.hok eb) dd fun h' dd' hs=>h _ ?_
    obtain⟨q,es,ep,hq,h2,h3,h4,_,h5⟩:=dd';refine iw I (by rw[e];exact True.intro) hs ⟨q,hq⟩ ⟨hl,hd,_,(rel.put k eb rv).keeps fun c ys ec => ?_,q,es,ep,hq,h2,h3,h4,h5⟩;rw[zp (ne_of ec e (fun z=>nomatch z))];exact ec
end
section
variable{X:Cx}{pins:List (Addr×Obj)}{σ:St}{H:Hp}{s:Shared}{a:Addr}{kvs:List (Key×V)}{k:Key}{u:Value}{A:Around}{E:Value->Shared->Prop}
theorem d_len{Q:Value->Shared->Prop}(I:Inv X pins σ H s)(e:Rd H a (.dK kvs))(h:∀t s',Inv X pins σ H s'->Q (.int kvs.length t) s'):wpAny (model X.prog X.w) A (call (.builtin "len") [.ref a]) Q E s:=by
  obtain⟨z,hd,vs,rel,dd⟩:=jl I.hok e;refine call_len_dict hd dd (by rw[<-rel.length];rw[sizeLine_eq]at z;omega) ?_;rw[<-rel.length];exact h _ _ (I.tok _)
end
def NoSl(i:Expr):Prop:=∀ov iv,subscripted i false ov iv=operate [ov,iv] (getItem ov iv)
theorem zi4{prog:Program}{w:World}{A:Around}{E:Value->Shared->Prop}{s:Shared}{env:Env}{value slice:Expr}{pos:Pos}{T id:String}{Q:Value->Shared->Prop}
    (hl:typeLookup (.type T) "__getitem__" = pure (some (.builtin id))) (hs:NoSl slice)
    (h:wpAny (model prog w) A (eval value env) (fun o s₁=>wpAny (model prog w) A (eval slice env) (fun i s₂=>s₂.TypeIs o T/\wpAny (model prog w) A (getItem o i) Q E s₂) E s₁) E s) :
    wpAny (model prog w) A (eval (.Subscript value slice pos) env) Q E s:=by
  refine Subscript_ (wpAny_mono h (fun o s₁ h₁=>wpAny_mono h₁ (fun i s₂ h₂ => ?_) fun _ _ x=>x) fun _ _ x=>x);obtain⟨hT,h₂⟩:=h₂;unfold subscriptTail;refine wpAny_bind ?_;rw[getitemInPython_of_ne hT.not_modules];refine wpAny_bind (wpAny_specialOf hT hl ?_)
  have fin:wpAny (model prog w) A (subscripted slice false o i) (fun r s₃=>wpAny (model prog w) A (letTemporaryGo value o r >>= fun _=>pure r) Q E s₃) E s₂:=by
    rw[hs o i];exact wpAny_operating (wpAny_mono h₂ (fun r s₃ h₃=>wpAny_bind (wpAny_letTemporaryGo (wpAny_pure h₃))) fun _ _ x=>x)
  first
    | exact wpAny_pure (wpAny_bind fin)
    | exact wpAny_bind (wpAny_pure (wpAny_bind fin))
    | exact wpAny_bind fin
theorem zb4{X:Cx}{pins:List (Addr×Obj)}{σ:St}{H:Hp}{s:Shared}{a:Addr}{y:V}{o:Option V}(I:Inv X pins σ H s)(g:DGet H a y o):s.TypeIs (.ref a) "dict" := by
  rcases g with ⟨kvs,k,e,_,_⟩ | ⟨kvs,k,b,e,_,_,_⟩
  . obtain⟨_,_,vs,_,dd⟩:=jl I.hok e
    exact dd.typeIs
  . obtain⟨_,_,xs,_,dd⟩:=iq I.hok e
    exact dd.typeIs
def tDGet(td ty:TE):TE:=fun σ H Q=>td σ H fun x H1=>ty σ H1 fun y H2=>∃a v,x=.ref a/\DGet H2 a y (some v)/\Q v H2
section
variable{X:Cx}{o i e value:Expr}{pos pos' tpos:Pos}{td ty tv:TE}
theorem tu(hu:X.A.units+1<cLine)(ho:PE X o td)(hi:PE X i ty)(hs:NoSl i):PE X (.Subscript o i pos) (tDGet td ty):=by
  intro pins s σ H Q I h;refine zi4 PySem.F.slot_dict_getitem.lookup hs (thn (ho pins s σ H _ I h) fun u s1 ⟨x,H1,I1,rx,q1⟩=>thn (hi pins s1 σ H1 _ I1 q1) fun iv s2 ⟨y,H2,I2,ry,a,v,ex,g,q2⟩ => ?_);subst ex;obtain rfl:u=Value.ref a:=rx;exact⟨zb4 I2 g,zhk hu I2 g ry fun w' s3 I3 rw'=>⟨v,H2,I3,rw',q2⟩⟩
end
theorem zih{P:Program}{w:World}{H:Hp}(h:Heap)(hb:sysModules<h.objs.size):ObjOk P w H (h.push { cls:=.type "dict", data:=.dict #[] }) h.objs.size (.dK []) :=
  ⟨ZE _,beq_eq_false_iff_ne.mpr (Ne.symm (Zs hb)),[],.nil,Heap.DictOf.new h⟩
theorem zid{P:Program}{w:World}{H:Hp}(h:Heap)(hb:sysModules<h.objs.size):ObjOk P w H (h.push { cls:=.type "dict", data:=.dict #[] }) h.objs.size (.dT []) :=
  ⟨ZE _,beq_eq_false_iff_ne.mpr (Ne.symm (Zs hb)),[],.nil,_,#[],0,Heap.get?_push_size _ rfl,⟨rfl,rfl,rfl⟩,rfl,rfl,Yq⟩
def zbr:TE:=fun _ H Q=>∀p,H p=none->Q (.ref p) (upd H p (.dK []))
def zga:TE:=fun _ H Q=>∀p,H p=none->Q (.ref p) (upd H p (.dT []))
section
variable{X:Cx}{pos:Pos}
theorem zii:PE X (.Dict [] [] pos) zbr:=fun pins s σ H Q I h =>
  wpAny_Dict_empty ⟨.ref s.heap.objs.size,_,I.laid (a:=s.heap.objs.size) (o:=.dK []) (t':=s.toks) (fun _ _ q=>Heap.get?_push_of_some _ q) (Zm _) (zih s.heap I.big),rfl,h _ (I.hok.fresh (Zm _))⟩
theorem zab:PE X (.Dict [] [] pos) zga:=fun pins s σ H Q I h =>
  wpAny_Dict_empty ⟨.ref s.heap.objs.size,_,I.laid (a:=s.heap.objs.size) (o:=.dT []) (t':=s.toks) (fun _ _ q=>Heap.get?_push_of_some _ q) (Zm _) (zid s.heap I.big),rfl,h _ (I.hok.fresh (Zm _))⟩
end
structure M1(X:Cx)(o:Expr)(m:Str)(apos:Pos)(e:Expr)(cpos:Pos):Prop where
  base:attributeBase o m X.env (eval o X.env)=eval o X.env
  few:((backTo cpos (starEach [e] X.env)).all (fun x => !x.1)&&(backToKw cpos (keywordEach [] X.env)).all (fun x=>x.1.isSome)
    && decide (([e]:List Expr).length+([]:List Keyword).length+(if ([]:List Keyword).isEmpty then 0 else 1)<30))=true
  line:(apos.endLine==cpos.line)=true
  trees:backTo cpos (starEach [e] X.env)=[(false,eval e X.env)]
structure M2(X:Cx)(o:Expr)(m:Str)(apos:Pos)(e f:Expr)(cpos:Pos):Prop where
  base:attributeBase o m X.env (eval o X.env)=eval o X.env
  few:((backTo cpos (starEach [e,f] X.env)).all (fun x => !x.1)&&(backToKw cpos (keywordEach [] X.env)).all (fun x=>x.1.isSome)
    && decide (([e,f]:List Expr).length+([]:List Keyword).length+(if ([]:List Keyword).isEmpty then 0 else 1)<30))=true
  line:(apos.endLine==cpos.line)=true
  trees:backTo cpos (starEach [e,f] X.env)=[(false,eval e X.env),(false,eval f X.env)]
def IsD(H:Hp)(a:Addr):Prop:=(∃kvs,Rd H a (.dK kvs))\/∃kvs,Rd H a (.dT kvs)
theorem isD_at{X:Cx}{pins:List (Addr×Obj)}{σ:St}{H:Hp}{s:Shared}{a:Addr}(I:Inv X pins σ H s)(d:IsD H a) :
    s.TypeIs (.ref a) "dict" /\ (∀b,Value.ref a=.ref b->∃ob,s.heap.get? b=some ob/\ob.dict=none)/\(a==sysModules)=false:=by
  rcases d with ⟨kvs,e⟩ | ⟨kvs,e⟩
  . obtain⟨_,hd,vs,_,dd⟩:=jl I.hok e
    refine⟨dd.typeIs,fun b q => ?_,hd⟩;cases q;obtain⟨ob,_,_,h1,h2,_⟩:=dd;exact⟨ob,h1,h2.2.1⟩
  . obtain⟨_,hd,xs,_,dd⟩:=iq I.hok e
    refine⟨dd.typeIs,fun b q => ?_,hd⟩;cases q;obtain⟨ob,_,_,h1,h2,_⟩:=dd;exact⟨ob,h1,h2.2.1⟩
section
variable{X:Cx}{pins:List (Addr×Obj)}{σ:St}{H:Hp}{s:Shared}{a:Addr}{y d:V}{u r:Value}{o:Option V}{A:Around}{E:Value->Shared->Prop}
theorem d_get1{Q:Value->Shared->Prop}(hu:A.units+1<cLine)(I:Inv X pins σ H s)(g:DGet H a y o)(ry:RelV y u)(h:∀w' s',Inv X pins σ H s'->RelV (o.getD .non) w'->Q w' s') :
    wpAny (model X.prog X.w) A (call (.builtin "dict.get") [.ref a,u]) Q E s:=by
  rcases g with ⟨kvs,k,e,ey,l⟩ | ⟨kvs,k,b,e,ey,eb,l⟩
  . subst ey
    obtain⟨z,hd,vs,rel,dd⟩:=jl I.hok e;refine call_meetsIn PySem.F.slot_dict_get dd.typeIs PySem.F.entry_dict_get (PySem.F.args_dict_get_2 _ _) (meets_dict_get (yw X.prog X.w) a (de ry) hd) ⟨_,dd.mapOf,h _ _ (I.tok _) ?_⟩;rw[l];exact(rel.val k).getD rfl
  . subst ey
    cases (show u=Value.ref b from ry);obtain⟨z,hd,xs,rel,dd⟩:=iq I.hok e;refine call_meetsIn PySem.F.slot_dict_get dd.typeIs PySem.F.entry_dict_get (PySem.F.args_dict_get_2 _ _) (meetsH_dict_get (tupleKind (yw X.prog X.w)) a b hd) ⟨tupleKind_room_in1 hu,k,xs,ku I.hok eb,dd,h _ _ (I.tok _) ?_⟩;rw[l];exact(rel.val k).getD rfl
end
def zgw(td ty:TE):TE:=fun σ H Q=>td σ H fun x H1=>∃a,x=.ref a/\IsD H1 a/\ty σ H1 fun y H2=>∃o,DGet H2 a y o/\Q (o.getD .non) H2
section
variable{X:Cx}{o e f:Expr}{apos cpos:Pos}{td ty tx:TE}
theorem zhv (hu:X.A.units+1<cLine) (ho:PE X o td) (he:PE X e ty) (m:M1 X o "get" apos e cpos):PE X (.Call (.Attribute o "get" apos) [e] [] cpos) (zgw td ty):=by
  intro pins s σ H Q I h;refine wpAny_Call_method m.base m.few m.line PySem.F.plainAttrs_dict PySem.F.slot_dict_get PySem.F.type_dict_get (thn (ho pins s σ H _ I h) fun u s1 ⟨x,H1,I1,rx,a,ex,d,q1⟩ => ?_);subst ex;obtain rfl:u=Value.ref a:=rx;obtain⟨t1,t2,_⟩:=isD_at I1 d;refine⟨t1,t2,?_⟩;rw[m.trees];refine Calls.callWith_builtin rfl (Calls.evalArgs_plain (Calls.spliced_cons (thn (he pins s1 σ H1 _ I1 q1) fun iv s2 ⟨y,H2,I2,ry,ov,g,q2⟩=>Calls.spliced_nil ?_)));exact d_get1 hu I2 g ry fun w' s3 I3 rw'=>⟨_,H2,I3,rw',q2⟩
end
section
variable{X:Cx}{pins:List (Addr×Obj)}{σ:St}{H:Hp}{s:Shared}{a:Addr}{kvs:List (Key×V)}{A:Around}{E:Value->Shared->Prop}
end
section
variable{X:Cx}{pins:List (Addr×Obj)}{σ:St}{H:Hp}{s:Shared}{a:Addr}{y:V}{u:Value}{A:Around}{E:Value->Shared->Prop}
end
end L2
namespace L2
open PySem PySem.Spec PyProof.Rows
section
variable{X:Cx}
theorem zgr:CallR X (.builtin "len") (fun xs H Q=>∃a kvs,xs=[V.ref a]/\H a=some (.dK kvs)/\Q (.int kvs.length) H):=by
  intro pins s σ H xs us Q I r h;obtain⟨a,kvs,rfl,ha,q⟩:=h;obtain⟨u,rfl,ru⟩:=re r;cases ru;exact d_len I (.inl ha) fun t s' I'=>⟨.int kvs.length,H,I',⟨t,rfl⟩,q⟩
end
section
variable{κ:Type}[DecidableEq κ]
theorem zin{kvs:List (κ×V)}{k:κ}(h:valV kvs k=none):¬k∈kvs.map (·.1):=by
  intro m;obtain⟨p,hp,e⟩:=Zp.mp m;have q:(kvs.any fun kv=>decide (kv.1=k))=true:=YZ.mpr ⟨p,hp,decide_eq_true e⟩;rw[qf,h]at q;exact absurd q (by simp)
theorem zdi{kvs:List (κ×V)}{k:κ}{v:V}(h:valV kvs k=some v):k∈kvs.map (·.1):=by
  have q:(kvs.any fun kv=>decide (kv.1=k))=true:=by
    rw[qf,h]
    all_goals rfl
  obtain⟨p,hp,e⟩:=YZ.mp q;exact Zp.mpr ⟨p,hp,of_decide_eq_true e⟩
theorem zdf:∀{l:List κ} {k:κ},l.Nodup->¬k∈l->(l++[k]).Nodup
  | [],k,_,_=>by simp
  | a::r,k,h,hk=>by
    obtain⟨h1,h2⟩:=ZQ.mp h
    show(a::(r++[k])).Nodup
    refine ZQ.mpr ⟨fun m => ?_,zdf h2 fun m=>hk (ZK.mpr (Or.inr m))⟩
    rcases ZH.mp m with q | q
    . exact h1 q
    . exact hk (ZK.mpr (Or.inl (ZC.mp q).symm))
theorem zjj{kvs:List (κ×V)}{k:κ}(v:V)(hn:(kvs.map (·.1)).Nodup)(h:valV kvs k=none):((putK kvs k v).map (·.1)).Nodup:=by
  rw[ji v h,Zn];exact zdf hn (zin h)
end
end L2
namespace L2
open PySem PySem.Spec PyProof.Rows
def dv(ns:List (Str×NameKind))(y n:Str):Bool:=match ns.lookup y with
  | some .free=>y==n
  | some .local=>false
  | some .cell=>false
  | _=>true
def uq(ns:List (Str×NameKind)):List Str->List Str->Bool
  | [],[]=>true
  | y::ys,n::ms=>dv ns y n&&uq ns ys ms
  | _,_=>false
def km(ns:List (Str×NameKind))(env:Env):Bool:=ns.all fun y => !(y.2==.free)||(env.kindOf y.1==some .cell||env.kindOf y.1==some .free)
def jn(ns:List (Str×NameKind)):Bool:=ns.all fun y => !(y.2==.cell)&&(!(y.2==.local)||ns.lookup y.1==some .local)
theorem dk{ns:List (Str×NameKind)}:∀{N2 N:List Str} {i:Nat} {y:Str},uq ns N2 N=true->N2[i]? = some y->dv ns y y=true/\(ns.lookup y=some .free->N[i]? = some y)
  | [],[],_,_,_,e=>by simp at e
  | y'::ys,n::ms,0,y,h,e=>by
    simp at e;subst e;unfold uq at h;rw[Bool.and_eq_true]at h;refine⟨?_,fun hf => ?_⟩
    . have h1:=h.1
      unfold dv at h1 ⊢
      split at h1 <;> first | rfl | (exact absurd h1 Bool.false_ne_true) | (exact beq_self_eq_true _)
    . have h1:=h.1
      unfold dv at h1;rw[hf]at h1;have e:y'=n:=eq_of_beq h1;simp[e]
  | y'::ys,n::ms,i+1,y,h,e=>by
    unfold uq at h;rw[Bool.and_eq_true]at h;obtain⟨h1,h2⟩:=dk (i:=i) (y:=y) h.2 (by simpa using e);exact⟨h1,fun hf=>by simpa using h2 hf⟩
  | [],_::_,_,_,h,_=>by cases h
  | _::_,[],_,_,h,_=>by cases h
theorem js{ns:List (Str×NameKind)}{env:Env}(h:km ns env=true){y:Str×NameKind}(hy:y∈ns)(hf:y.2=.free):env.kindOf y.1=some .cell\/env.kindOf y.1=some .free:=by
  have q:=ZT.mp h y hy;rw[hf]at q
  simpa using q
theorem dw{ns:List (Str×NameKind)}(h:jn ns=true):∀y∈ns,y.2≠.cell:=fun y hy e=>by
  have q:=ZT.mp h y hy;rw[e]at q;simp at q
theorem ge{ns:List (Str×NameKind)}(h:jn ns=true):∀y∈ns,y.2=.local->ns.lookup y.1=some .local:=fun y hy e=>by
  have q:=ZT.mp h y hy;rw[e]at q
  simpa using q
theorem qd{env:Env}{x:Str}:∀{ns:List (Str×NameKind)},(ns.map fun(n,k)=>if (k==NameKind.free&&env.scope.kind==.function&&env.kindOf n==some .cell) then(n,NameKind.cell) else(n,k)).lookup x =
    (ns.lookup x).map fun k=>if (k==NameKind.free&&env.scope.kind==.function&&env.kindOf x==some .cell) then NameKind.cell else k
  | []=>rfl
  | (n,k)::r=>by
    have ih:=@qd env x r
    show List.lookup x ((if (k==NameKind.free&&env.scope.kind==.function&&env.kindOf n==some .cell)=true then(n,NameKind.cell) else(n,k))::_)=_
    cases hx:x==n with
    | true =>
      have e:x=n:=eq_of_beq hx;subst e;simp only[ZF,beq_self_eq_true]
      by_cases hc:(k==NameKind.free&&env.scope.kind==.function&&env.kindOf x==some .cell)=true
      . rw[if_pos hc];simp only[ZF,beq_self_eq_true,Yx];rw[if_pos hc]
      . rw[if_neg hc];simp only[ZF,beq_self_eq_true,Yx];rw[if_neg hc]
    | false =>
      simp only[ZF,hx]
      by_cases hc:(k==NameKind.free&&env.scope.kind==.function&&env.kindOf n==some .cell)=true
      . rw[if_pos hc];simp only[ZF,hx];exact ih
      . rw[if_neg hc];simp only[ZF,hx];exact ih
theorem da{scope:Scope}{env:Env}(h:∀y∈scope.names,y.2=.free->∃c,env.cells.lookup y.1=some c) :
    ∃cl,closureFor scope env=pure cl/\(∀x c,cl.lookup x=some c->env.cells.lookup x=some c)/\(∀y∈scope.names,y.2=.free->∃c,cl.lookup y.1=some c):=by
  have all:∀(ns:List (Str×NameKind)) (cs:List (Str×Addr)),(∀y∈ns,y.2=.free->∃c,env.cells.lookup y.1=some c)->(∀x c,cs.lookup x=some c->env.cells.lookup x=some c) ->
      ∃cl,(forIn ns cs fun x r=>(if (x.2==NameKind.free)=true then do let a <-cellOf env x.1;pure (ForInStep.yield ((x.1,a)::r)) else pure (ForInStep.yield r):Sem (ForInStep (List (Str×Addr)))))=pure cl /\
        (∀x c,cl.lookup x=some c->env.cells.lookup x=some c)/\(∀x,(cs.lookup x).isSome=true->(cl.lookup x).isSome=true)/\(∀y∈ns,y.2=.free->∃c,cl.lookup y.1=some c):=by
    intro ns
    induction ns with
    | nil=>intro cs _ hc;exact⟨cs,rfl,hc,fun _ z=>z,fun _ z=>nomatch z⟩
    | cons y r ih =>
      intro cs hh hc;have hr:∀z∈r,z.2=.free->∃c,env.cells.lookup z.1=some c:=fun z hz=>hh z (Zv _ hz)
      by_cases hf:y.2=.free
      . obtain⟨c,ec⟩:=hh y ZA hf
        have hc':∀x d,((y.1,c)::cs).lookup x=some d->env.cells.lookup x=some d:=fun x d e=>by
          rw[ZF]at e
          cases hx:x==y.1 with
          | true =>
            rw[hx]at e;have e2:x=y.1:=eq_of_beq hx;cases e;rw[e2];exact ec
          | false =>
            rw[hx]at e;exact hc x d e
        obtain⟨cl,e1,e2,e3,e4⟩:=ih ((y.1,c)::cs) hr hc';refine⟨cl,?_,e2,fun x hx=>e3 x ?_,fun z hz hzf => ?_⟩
        . rw[List.forIn_cons]
          have ek:(y.2==NameKind.free)=true:=by rw[hf];rfl
          simp only[ek,if_true,cellOf,ec,pure_bind];exact e1
        . rw[ZF];split <;> first | rfl | exact hx
        . rcases ZK.mp hz with rfl | hz
          . have:=e3 z.1 (by rw[ZF,beq_self_eq_true];rfl)
            exact Option.isSome_iff_exists.mp this
          . exact e4 z hz hzf
      . obtain⟨cl,e1,e2,e3,e4⟩:=ih cs hr hc
        refine⟨cl,?_,e2,e3,fun z hz hzf => ?_⟩
        . rw[List.forIn_cons]
          have ek:(y.2==NameKind.free)=false:=by simpa using hf
          simp only[ek,Bool.false_eq_true,if_false,pure_bind];exact e1
        . rcases ZK.mp hz with rfl | hz
          . exact absurd hzf hf
          . exact e4 z hz hzf
  obtain⟨cl,e1,e2,_,e4⟩:=all scope.names [] h (fun _ _ z=>by cases z);refine⟨cl,?_,e2,e4⟩;unfold closureFor
  first
    | (rw[show(forIn scope.names ([]:List (Str×Addr)) _:Sem (List (Str×Addr)))=pure cl from e1];rfl)
    | (simp only[bind_pure];exact e1)
    | (show(forIn scope.names [] _ >>= _)=_;exact(congrArg (fun t=>t >>= fun cs=>pure cs) e1))
structure Dyn where
  cl:List (Str×Addr)
  C:Addr
  s₀:Shared
  H₀:Hp
  fp:List Addr
abbrev y8(X:Cx)(scope:Scope)(N':List Str)(d:Dyn):Cx where
  prog:=X.prog
  w:=X.w
  K:=X.K
  mg:=X.mg
  base:=X.base
  A:=X.A
  N:=N'
  s₀:=d.s₀
  H₀:=d.H₀
  env:=compEnvC scope d.cl d.C X.env
  outer:=X.stack
  stack:=X.stack
  ex:=d.fp
  fn:=fun _=>false
  calm:=true
  pn:=[]
  xe:=fun _ _=>False
theorem zch{prog:Program}{w:World}{A:Around}{R:Result->Shared->Prop}{s:Shared}{elt target iter:Expr}{ifs:List Expr}{scope:Scope}{pos:Pos}{it acc:Value}{env:Env}(I:Nat->Shared->Prop)
    (turn:∀n s,I n s->wpAny (model prog w) A (pyNext it) (fun r s₁=>match r with
      | none=>R (.ok .next) s₁
      | some v=>wpAny (model prog w) A (letOwnedTupleGo target it v) (fun _ s₁'=>wpAny (model prog w) A (assign target env v) (fun _ s₂ =>
          wpAny (model prog w) A (forIn ifs true fun c r=>if r=true then do let ok <-isTrue c env (eval c env);pure (ForInStep.yield ok) else pure (ForInStep.yield r)) (fun ok s₃ =>
            if ok=true then wpAny (model prog w) A (eval elt env) (fun x s₄ =>
              wpAny (model prog w) A (call (.builtin "list.append") [acc,x]) (fun _ s₅=>∃m,m<n/\I m s₅) (fun _ _=>False) s₄) (fun _ _=>False) s₃
            else ∃m,m<n/\I m s₃) (fun _ _=>False) s₂) (fun _ _=>False) s₁') (fun _ _=>False) s₁) (fun _ _=>False) s)
    (n:Nat) (h:I n s) :
    codeAny (model prog w) A (.compLoop (.ListComp elt [⟨target,iter,ifs,0⟩] scope pos) 0 it acc env) R s:=by
  refine codeAny_loop rfl I (fun n s hI => ?_) n h
  show wpAny _ A ((compTurn (.ListComp elt [⟨target,iter,ifs,0⟩] scope pos) 0 it acc env).onRaise (fun x=>do noteFrame x env;theTreesLotGoes x)) _ _ s
  refine wpAny_noted ?_;rw[compTurn_list];refine wpAny_bind (wpAny_standAt (wpAny_bind (wpAny_mono (turn n s hI) (fun r s₁ h₁ => ?_) fun _ _ f=>f.elim)))
  cases r with
  | none=>exact wpAny_pure h₁
  | some v =>
    refine wpAny_bind (wpAny_mono h₁ (fun _ s₁' h₁' => ?_) fun _ _ f=>f.elim);refine wpAny_bind (wpAny_mono h₁' (fun _ s₂ h₂=>wpAny_bind (wpAny_mono h₂ (fun ok s₃ h₃ => ?_) fun _ _ f=>f.elim)) fun _ _ f=>f.elim)
    cases ok with
    | false=>exact wpAny_pure ⟨rfl,h₃⟩
    | true =>
      exact wpAny_bind (wpAny_bind (wpAny_mono h₃ (fun x s₄ h₄=>wpAny_bind (wpAny_mono h₄ (fun _ s₅ h₅=>wpAny_pure (wpAny_pure ⟨rfl,h₅⟩)) fun _ _ f=>f.elim)) fun _ _ f=>f.elim))
def PTs(X:Cx)(ifs:List Expr)(t:TT):Prop :=
  ∀(pins:List (Addr×Obj)) (s:Shared) (σ:St) (H:Hp) (Q:Bool->Hp->Prop),Inv X pins σ H s->t σ H Q ->
    wpAny (model X.prog X.w) X.A (forIn ifs true fun c r=>if r=true then do let ok <-isTrue c X.env (eval c X.env);pure (ForInStep.yield ok) else pure (ForInStep.yield r)) (TP X pins σ Q) X.xe s
def tAll:TT:=fun _ H Q=>Q true H
theorem z8{X:Cx}:PTs X [] tAll:=fun _ _ _ H _ I h=>wpAny_tests_nil ⟨H,I,h⟩
theorem zjr{X:Cx}{c:Expr}{t:TT}(h:PT X c t):PTs X [c] t:=fun pins s σ H Q I q=>wpAny_tests_one (h pins s σ H Q I q)
def sw(J:It)(σ:St)(k:Nat)(g:TG)(tt:TT)(te:TE)(H1:Hp)(Fin:List V->Hp->Prop):Prop :=
  ∃W:Nat->Nat->List V->Hp->Prop,(∃m,W 0 m [] H1)/\∀i m ys H,W i m ys H->ys.length<=sizeLine /\
    ((J.stop i H/\Fin ys H)\/(J.go i H/\∃N:List V->Hp->Prop,(∀ys' H',N ys' H'->∃m',m'<m/\W (i+1) m' ys' H')/\∀x H',J.yld i H x H'->g x (List.replicate k none++σ) H' fun σ2 H2=>σ2.drop k=σ /\
      tt σ2 H2 fun b H3=>if b=true then te σ2 H3 fun v H4=>N (ys++[v]) H4 else N ys H3))
abbrev lobj(its:List Value):Obj:={ cls:=.type "list", data:=.seq its.toArray its.length }
section
variable{X:Cx}{pins:List (Addr×Obj)}{σ:St}{H2:Hp}{s₂:Shared}{scope:Scope}{ts N2:List Str}{cl:List (Str×Addr)}{C D:Addr}{fp:List Addr}
theorem zi6(I2:Inv X pins σ H2 s₂)(hc:X.calm=true)(f2:∀b∈fp,FpOk X pins H2 b/\b<s₂.heap.objs.size)(hkind:scope.kind=.function)(hown:jn scope.names=true)(hfree:km scope.names X.env=true)
    (hcl1:∀x c,cl.lookup x=some c->X.env.cells.lookup x=some c) (hcl2:∀y∈scope.names,y.2=.free->∃c,cl.lookup y.1=some c) (hC:s₂.heap.objs.size<=C) :
    (y8 X scope (ts++N2) ⟨cl,C,s₂,H2,fp⟩).Ok:=by
  refine⟨I2.ok.mod,hkind,I2.ok.glob,I2.ok.blt,hC,fun x y c e1 e2=>I2.ok.inj x y c (hcl1 _ _ e1) (hcl1 _ _ e2),fun x hx => ?_,fun x c z _=>absurd (show false=true from z) Bool.false_ne_true,fun _=>I2.ok.hd hc,I2.ok.frames,.inl rfl,fun b hb => ?_,I2.bs,Zd I2.ok.bsz I2.sz,fun b o e hb => ?_,fun b hb hfs => ?_,I2.stack,I2.stkFree⟩
  . have hx':(relabel scope X.env).names.lookup x=some .cell\/(relabel scope X.env).names.lookup x=some .free:=hx
    have e0:(relabel scope X.env).names.lookup x=_:=qd (env:=X.env) (x:=x) (ns:=scope.names);rw[e0]at hx'
    cases q:scope.names.lookup x with
    | none=>rw[q]at hx';simp at hx'
    | some k =>
      rw[q]at hx';simp only[Yx,Option.some.injEq]at hx';have hm:(x,k)∈scope.names:=PySem.mem_of_lookup q
      have hk:k=.free:=by
        have nc:=dw hown _ hm
        split at hx'
        . rename_i hcond
          simp only[Bool.and_eq_true]at hcond;exact eq_of_beq hcond.1.1
        . rcases hx' with z | z
          . exact absurd z nc
          . exact z
      exact hcl2 _ hm hk
  . obtain⟨⟨f0,f1,f3,f4,f5,f6⟩,hlt⟩:=f2 b hb
    exact⟨Zs (Zh hlt hC),fun x c e=>f5 x c (hcl1 x c e)⟩
  . obtain⟨⟨f0,f1,f3,f4,f5,f6⟩,hlt⟩:=f2 b hb
    rcases f4 with z | z
    . exact I2.ok.noex b o e z
    . exact absurd (Zh (Heap.lt_size e) (Zd I2.ok.bsz z)) (ZJ _)
  . obtain⟨⟨f0,f1,f3,f4,f5,f6⟩,hlt⟩:=f2 b hb
    rcases ZK.mp (I2.stkSub b hfs) with z | z
    . exact f1 z
    . exact f3 z
theorem zex(I2:Inv X pins σ H2 s₂)(hc:X.calm=true)(f2:∀b∈fp,FpOk X pins H2 b/\b<s₂.heap.objs.size)(hkind:scope.kind=.function)(hown:jn scope.names=true)(hfree:km scope.names X.env=true)(hout:uq scope.names N2 X.N=true)
    (hcl1:∀x c,cl.lookup x=some c->X.env.cells.lookup x=some c) (hcl2:∀y∈scope.names,y.2=.free->∃c,cl.lookup y.1=some c) (hC:s₂.heap.objs.size<=C) (hDC:D≠C) (hD:s₂.heap.objs.size<=D)
    {h₁:Heap} {tk:Nat} {m:Str->Option Value} (hn:h₁.Ns C m) (old:∀b o,s₂.heap.get? b=some o->h₁.get? b=some o) (hacc:h₁.get? D=some (lobj [])) :
    Inv (y8 X scope (ts++N2) ⟨cl,C,s₂,H2,fp⟩) [(D,lobj [])] (List.replicate ts.length none++σ) H2 { s₂ with heap:=h₁,toks:=tk }:=by
  have ok:=zi6 (ts:=ts) (N2:=N2) I2 hc f2 hkind hown hfree hcl1 hcl2 hC
  have hlN:∀{a b:List Str},uq scope.names a b=true->a.length=b.length:=by
    intro a
    induction a with
    | nil=>intro b h;cases b with | nil=>rfl | cons _ _=>cases h
    | cons y ys ih =>
      intro b h
      cases b with
      | nil=>cases h
      | cons n ms =>
        unfold uq at h;rw[Bool.and_eq_true]at h;rw[ZN,ZN,ih h.2]
  refine⟨ok,rfl,I2.bare,Un.kept old,⟨m,hn,fun i x v e1 e2 e3 => ?_⟩,fun x c e => ?_,?_,fun x c e=>I2.freeC x c (hcl1 x c e),fun p hp => ?_,I2.hok.kept old,?_⟩
  . by_cases hi:i<ts.length
    . rw[Zg (by simpa using hi),YD]at e2
      split at e2 <;> cases e2
    . have hi':ts.length<=i:=ZD.mp hi
      rw[Zf (by simpa using hi')]at e2;rw[ZI]at e2;have e1':(ts++N2)[i]? = some x:=e1;rw[Zf hi']at e1';obtain⟨k1,k2⟩:=dk hout e1';have e0:(relabel scope X.env).names.lookup x=_:=qd (env:=X.env) (x:=x) (ns:=scope.names);have e3':(relabel scope X.env).names.lookup x=some .local\/(relabel scope X.env).names.lookup x=some .cell\/(relabel scope X.env).names.lookup x=some .free:=e3;rw[e0]at e3'
      cases q:scope.names.lookup x with
      | none=>rw[q]at e3';simp at e3'
      | some k =>
        have hm:(x,k)∈scope.names:=PySem.mem_of_lookup q
        have hk:k=.free:=by
          unfold dv at k1;rw[q]at k1 e3'
          cases k with
          | free=>rfl
          | «local» => cases k1
          | cell=>cases k1
          | _=>exfalso;revert e3';simp
        subst hk;obtain⟨mo,hmo,hl⟩:=I2.loc;have hkv:=js hfree hm rfl;have vis:Vis X.env.scope x:=hkv.elim (fun z=>.inr (.inl z)) fun z=>.inr (.inr z)
        obtain⟨u,r,l⟩:=hl _ x v (k2 q) e2 vis;refine⟨u,r,.inr ⟨?_,?_⟩⟩
        . show(relabel scope X.env).names.lookup x=some .cell\/(relabel scope X.env).names.lookup x=some .free
          rw[e0,q];simp only[Yx,Option.some.injEq]
          split
          . exact .inl rfl
          . exact .inr rfl
        . rcases l with ⟨kl,_⟩ | ⟨_,c,ec,z⟩
          . exfalso
            rcases hkv with z | z <;> (rw[kl]at z;cases z)
          . obtain⟨c',ec'⟩:=hcl2 _ hm rfl
            have:=hcl1 _ _ ec';rw[ec]at this;cases this;obtain⟨o,ho,hd⟩:=z;exact⟨c,ec',o,old _ _ ho,hd⟩
  . obtain⟨v,o,ho,hd⟩:=I2.cell x c (hcl1 x c e)
    exact⟨v,o,old _ _ ho,hd⟩
  . exact I2.hok.fresh hC
  . have e:p=(D,lobj []):=by simpa using hp
    subst e;refine⟨hacc,I2.hok.fresh hD,hDC,fun z => ?_,fun v z=>by cases z⟩
    rcases ZK.mp (I2.stkSub D z) with z | z
    . exact absurd (Zh I2.lt (by rw[<-z];exact hD)) (ZJ _)
    . exact I2.nofs hD z
  . show(List.replicate ts.length none++σ).length=(ts++N2).length
    rw[Zo,Zo,ZI,I2.len,hlN hout]
theorem zix(I2:Inv X pins σ H2 s₂)(f2:∀b∈fp,FpOk X pins H2 b)(hD:s₂.heap.objs.size<=D){σ':St}{H':Hp}{s':Shared}{its:List Value}{ys:List V}{pl:List (Addr×Obj)}
    (J:Inv (y8 X scope (ts++N2) ⟨cl,C,s₂,H2,fp⟩) pl σ' H' s') (hp:s'.heap.get? D=some (lobj its)) (hn:H' D=none) (hv:Vals ys its) (hz:ys.length<=sizeLine):Inv X pins σ (upd H' D (.lst ys)) s':=by
  have neD:∀b o,s₂.heap.get? b=some o->b≠D:=fun b o e=>Zs (Zh (Heap.lt_size e) hD)
  have neH:∀b o,H2 b=some o->b≠D:=fun b o e=>Zs (Zh (I2.hok.lt e) hD)
  have u:=J.base
  have un:Un (frs X.stack) fp H2 (upd H' D (.lst ys)) s₂.heap s'.heap :=
    ⟨u.keep,u.slot,fun b o e n hx=>by rw[zp (neD b o e)];exact u.free b o e n hx,u.there,fun b xs e=>by rw[zp (neH b _ e)];exact u.tups b xs e,fun b o v e=>by rw[zp (neH b _ e)];exact u.frzs b o v e,
      fun b ps e=>by rw[zp (neH b _ e)];exact u.tbls b ps e⟩
  have hok:HOk X.prog X.w (upd H' D (.lst ys)) s'.heap:=fun b o e=>by
    by_cases hb:b=D
    . subst hb
      rw[zc]at e;cases e;exact⟨hz,its,its.length,hv,hp⟩
    . rw[zp hb]at e
      exact(J.hok b o e).stay (fun c v _ q=>q) (fun c q=>by rw[zp (y3 q hn)];exact q) fun c xs q=>by rw[zp (y3 q hn)];exact q
  exact I2.call' (ch:=fp) J.os un hok J.bare fun b hb=>by
    obtain⟨f0,f1,f3,f4,f5,f6⟩:=f2 b hb;exact⟨f4,f1,f5,f6⟩
theorem d5{E:Value->Shared->Prop}{tg elt iter:Expr}{ifs:List Expr}{pos:Pos}{it:Addr}{tn:Nat->Heap->Prop}{J:It}{g:Dyn->TG}{tt:Dyn->TT}{te:Dyn->TE}{RR:Value->Addr->Result->Shared->Prop}{Fin:List V->Hp->Prop}
    (I2:Inv X pins σ H2 s₂) (hc:X.calm=true) (T:Turn X.prog X.w X.K tg J fp it tn) (st:tn 0 s₂.heap) (f2:∀b∈fp,FpOk X pins H2 b) (hkind:scope.kind=.function) (hown:jn scope.names=true) (hfree:km scope.names X.env=true) (hout:uq scope.names N2 X.N=true)
    (hcl1:∀x c,cl.lookup x=some c->X.env.cells.lookup x=some c) (hcl2:∀y∈scope.names,y.2=.free->∃c,cl.lookup y.1=some c)
    (hg:∀d,PG (y8 X scope (ts++N2) d) tg (g d)) (ht:∀d,PTs (y8 X scope (ts++N2) d) ifs (tt d)) (he:∀d,PE (y8 X scope (ts++N2) d) elt (te d))
    (hW:∀d,sw J σ ts.length (g d) (tt d) (te d) H2 Fin)
    (hRR:∀D C s' H' ys,s₂.heap.objs.size<=C->C≠D->Inv X pins σ (upd H' D (.lst ys)) s'->H' D=none->H' C=none->(∃m,s'.heap.Ns C m)->ys.length<=sizeLine->Fin ys H'->RR (.ref D) C (.ok .next) s') :
    wpAny (model X.prog X.w) X.A (newList []) (fun acc s₃=>wpAny (model X.prog X.w) X.A (newFunctionEnv scope X.env.globals cl [] X.env.qual none .none (some X.env)) (fun cenv s₄ =>
      codeAny (model X.prog X.w) X.A (.compStart (.ListComp elt [⟨tg,iter,ifs,0⟩] scope pos) 0 (.ref it) acc { cenv with scope:=relabel scope X.env }) (RR acc cenv.locals) s₄) E s₃) E s₂:=by
  refine wpAny_newObj_type (wpAny_newFunctionEnv (dw hown) (by intro y hy;simp at hy) (fun h₁ hns₁ hsb₁ => ?_) hkind);dsimp only at hns₁ hsb₁ ⊢;generalize hH2:s₂.heap.push { cls:=.type "list", dict:=none,data:=.seq ([]:List Value).toArray }=HP at hns₁ hsb₁ ⊢;have hC:HP.objs.size=s₂.heap.objs.size+1:=by rw[<-hH2,Heap.size_push]
  have hDC:s₂.heap.objs.size≠HP.objs.size:=by rw[hC];exact Zs (Yj _)
  have hCle:s₂.heap.objs.size<=HP.objs.size:=by rw[hC];exact Yt _
  have below:∀b,b<s₂.heap.objs.size->b≠HP.objs.size/\b≠s₂.heap.objs.size:=fun b hb=>⟨by rw[hC];exact Zs (Yp hb),Zs hb⟩
  have old:∀b o,s₂.heap.get? b=some o->h₁.get? b=some o:=fun b o e=>hsb₁.extBut b o (below b (Heap.lt_size e)).1 (Heap.get?_push_of_some _ (hH2▸Heap.get?_push_of_some _ e))
  have hacc:h₁.get? s₂.heap.objs.size=some (lobj []):=hsb₁.extBut _ _ hDC (Heap.get?_push_of_some _ (hH2▸Heap.get?_push_size _ rfl))
  have flt:∀b∈fp,b<s₂.heap.objs.size:=fun b hb=>by
    obtain⟨o,e,_⟩:=T.obj _ _ st b hb;exact Heap.lt_size e
  generalize hDD:s₂.heap.objs.size=D at *;generalize hCC:HP.objs.size=C at *;have hDle:s₂.heap.objs.size<=D:=Nat.le_of_eq hDD;have I4:=fun(tk:Nat)=>zex (ts:=ts) (D:=D) (C:=C) (tk:=tk) I2 hc (fun b hb=>⟨f2 b hb,by rw[hDD];exact flt b hb⟩) hkind hown hfree hout hcl1 hcl2 (by rw[hDD];exact hCle) hDC hDle hns₁ old hacc
  generalize hd:(⟨cl,C,s₂,H2,fp⟩:Dyn)=d at *;obtain⟨W,⟨m0,w0⟩,turn⟩:=hW d
  have Xs:∀{pl:List (Addr×Obj)} {H':Hp},(∀b∈fp,H' b=none)->(∀p∈pl,p.1=D)->∀b∈fp,FpOk (y8 X scope (ts++N2) d) pl H' b:=fun {pl H'} hn hp b hb=>by
    subst hd;obtain⟨f0,f1,f3,f4,f5,f6⟩:=f2 b hb;refine⟨hn b hb,(below b (flt b hb)).1,fun z => ?_,.inl hb,fun x c e=>f5 x c (hcl1 x c e),fun p hp' => ?_⟩
    . rcases ZK.mp (I2.stkSub b z) with z | z
      . exact f1 z
      . exact f3 z
    . rw[hp p (by simpa using hp')]
      exact Ne.symm (below b (flt b hb)).2
  have loop:∀s₃:Shared,s₃={ s₂ with heap:=h₁,toks:=s₂.toks+([]:List (Str×Value)).length } ->
      codeAny (model X.prog X.w) X.A (.compLoop (.ListComp elt [⟨tg,iter,ifs,0⟩] scope pos) 0 (.ref it) (.ref D) (compEnvC scope cl C X.env)) (RR (.ref D) C) s₃:=by
    rintro s₃ rfl
    refine zch (fun n s'=>∃i ys H' its,Inv (y8 X scope (ts++N2) d) [(D,lobj its)] (List.replicate ts.length none++σ) H' s'/\tn i s'.heap/\(∀b∈fp,H' b=none)/\Vals ys its/\W i n ys H') ?_ m0
      ⟨0,[],H2,[],I4 _,T.keep _ _ _ st fun b _ o e=>old b o e,fun b hb=>(f2 b hb).1,.nil,w0⟩
    rintro n s3 ⟨i,ys,H3,its,I3,st3,fr3,hv3,w3⟩
    obtain⟨hlen,tr⟩:=turn i n ys H3 w3
    have one:∀p∈[(D,lobj its)],p.1=D:=fun p hp=>by
      have e:p=(D,lobj its):=by simpa using hp
      rw[e]
    have eenv:(y8 X scope (ts++N2) d).env=compEnvC scope cl C X.env:=by subst hd;rfl
    rcases tr with ⟨stop,fin⟩ | ⟨go,N,hN,step⟩
    . refine thn (T.done (y8 X scope (ts++N2) d) rfl rfl rfl rfl i _ s3 _ H3 (fun _ _=>False) I3 (Xs fr3 one) st3 stop) fun r s4 ⟨hr,J4⟩ => ?_
      subst hr
      show RR (.ref D) C (.ok .next) s4
      obtain⟨pe,pn,_⟩:=J4.pin (D,lobj its) (by simp);have fC:H3 C=none:=by have:=J4.free;rw[eenv]at this;exact this
      have nC:∃m,s4.heap.Ns C m:=by
        obtain⟨m,z,_⟩:=J4.loc;rw[eenv]at z;exact⟨m,z⟩
      subst hd;exact hRR D C s4 H3 ys hCle (Ne.symm hDC) (zix I2 f2 hDle J4 pe pn hv3 hlen) pn fC nC hlen fin
    . refine thn (T.item (y8 X scope (ts++N2) d) rfl rfl rfl rfl i _ s3 _ H3 (fun _ _=>False) I3 (Xs fr3 one) st3 go) fun r s4 ⟨u,hr,h4⟩ => ?_
      subst hr;refine thn h4 fun _ s5 ⟨x,H5,I5,r5,y5,st5,fr5⟩ => ?_
      have I5':=I5.pinned (Xs fr5 one) (T.obj _ _ st5);rw[<-eenv];refine thn (hg d _ s5 _ H5 x u _ I5' r5 (step x H5 y5)) fun _ s6 ⟨σ6,H6,I6,hdrop,q6⟩ => ?_
      have back:∀{ys':List V} {its':List Value} {H':Hp} {s':Shared} {pl:List (Addr×Obj)},Inv (y8 X scope (ts++N2) d) ([(D,lobj its')]++pl) σ6 H' s'->Inv (y8 X scope (ts++N2) d) [(D,lobj its')] (List.replicate ts.length none++σ) H' s':=fun {ys' its' H' s' pl} I'=>by
        have hl:σ6.length=(ts++N2).length:=I'.len;refine(I'.pins_of (pins':=[(D,lobj its')]) fun p hp=>I'.pin p (Zu _ (ZW _ hp))).weak ?_ ?_
        . rw[hl];exact I3.len
        . intro j v e
          by_cases hj:j<ts.length
          . rw[Zg (by simpa using hj),YD]at e
            split at e <;> cases e
          . have hj':ts.length<=j:=ZD.mp hj
            rw[Zf (by simpa using hj'),ZI,<-hdrop,YB]at e;rw[show ts.length+(j-ts.length)=j by omega]at e;exact e
      refine thn (ht d _ s6 σ6 H6 _ I6 q6) fun b s7 ⟨H7,I7,q7⟩ => ?_
      have pinsOf:∀{its':List Value} {H':Hp} {s':Shared},Inv (y8 X scope (ts++N2) d) ([(D,lobj its')]++jw fp s5.heap) σ6 H' s'->(∀b∈fp,∀o,s5.heap.get? b=some o->s'.heap.get? b=some o)/\∀b∈fp,H' b=none:=fun {its' H' s'} I'=>by
        refine⟨fun b hb o e=>(I'.pin (b,o) (Zu _ (Zu _ (sd hb e)))).1,fun b hb => ?_⟩;obtain⟨o,e,_⟩:=T.obj _ _ st5 b hb;exact(I'.pin (b,o) (Zu _ (Zu _ (sd hb e)))).2.1
      cases b with
      | false =>
        have q7':N ys H7:=by simpa using q7
        obtain⟨m',hm,w7⟩:=hN _ _ q7';obtain⟨k1,k2⟩:=pinsOf I7
        show ∃m,m<n/\_
        exact⟨m',hm,i+1,ys,H7,its,back (ys':=ys) I7,T.keep _ _ _ st5 k1,k2,hv3,w7⟩
      | true =>
        have q7':te d σ6 H7 fun v H4=>N (ys++[v]) H4:=by simpa using q7
        show wpAny _ _ _ _ _ _
        refine thn (he d _ s7 σ6 H7 _ I7 q7') fun y s8 ⟨v,H8,I8,r8,n8⟩ => ?_
        obtain⟨m',hm,w8⟩:=hN _ _ n8;obtain⟨k1,k2⟩:=pinsOf I8;obtain⟨pe,pn,pC,pf,pd⟩:=I8.pin (D,lobj its) (by simp);have hsz:its.toArray.size<=sizeLine:=by rw[Zr,<-hv3.length];exact hlen
        refine append_at (hsz:=hsz) pe fun h9 sb9 e9 => ?_
        have J8:Inv (y8 X scope (ts++N2) d) [] σ6 H8 s8:=I8.pins_of fun p hp=>nomatch hp
        have hDs:(y8 X scope (ts++N2) d).s₀.heap.objs.size<=D:=by subst hd;exact hDle
        have J9:Inv (y8 X scope (ts++N2) d) [] σ6 H8 { s8 with heap:=h9 }:=J8.turned (t':=s8.toks) (it:=D) (fun b o hb e=>sb9.extBut b o hb e) pn pC (.inr hDs)
          (fun x c e=>by
            obtain⟨v',z⟩:=I3.cell x c e;subst hd;obtain⟨v2,z2⟩:=I2.cell x c (hcl1 x c e)
            exact Zs (Zh z2.lt hDle)) (fun p hp=>nomatch hp)
        have e9':h9.get? D=some (lobj (its++[y])):=by
          rw[e9]
          show some ({ cls:=.type "list", data:=.seq (its.toArray.push y) (its.length+1) }:Obj)=some { cls:=.type "list", data:=.seq (its++[y]).toArray (its++[y]).length }
          rw[Zo,YN,List.push_toArray]
        have J9':Inv (y8 X scope (ts++N2) d) ([(D,lobj (its++[y]))]++[]) σ6 H8 { s8 with heap:=h9 }:=J9.pins_of fun p hp=>by
          have e:p=(D,lobj (its++[y])):=by simpa using hp
          subst e;exact⟨e9',pn,pC,pf,fun v z=>by cases z⟩
        refine⟨m',hm,i+1,ys++[v],H8,its++[y],back (ys':=ys) J9',?_,k2,hv3.append (.cons r8 .nil),w8⟩;exact T.keep _ _ _ st5 fun b hb o e=>sb9.extBut b o (below b (flt b hb)).2 (k1 b hb o e)
  exact codeAny_compStart_list (loop _ rfl) (T.self _ 0 _ _ _ (T.keep _ _ _ st fun b _ o e=>old b o e) (loop _ rfl))
end
def zd9(k:Nat)(wi:TI)(g:Dyn->TG)(tt:Dyn->TT)(te:Dyn->TE):TE:=fun σ H Q=>wi σ H fun J H1=>∀d:Dyn,sw J σ k (g d) (tt d) (te d) H1 fun ys H'=>∀l,H' l=none->Q (.ref l) (upd H' l (.lst ys))
theorem yh{X:Cx}{tg elt iter:Expr}{ifs:List Expr}{scope:Scope}{pos:Pos}(ts N2:List Str){wi:TI}{g:Dyn->TG}{tt:Dyn->TT}{te:Dyn->TE}(hc:X.calm=true)(hi:PI X tg iter wi)
    (hg:∀d,PG (y8 X scope (ts++N2) d) tg (g d)) (ht:∀d,PTs (y8 X scope (ts++N2) d) ifs (tt d)) (he:∀d,PE (y8 X scope (ts++N2) d) elt (te d))
    (hkind:scope.kind=.function) (hown:jn scope.names=true) (hfree:km scope.names X.env=true) (hout:uq scope.names N2 X.N=true)
    (hs:∀x,foldedSetIterable iter X.env x=pure x:=by intro _;rfl):PE X (.ListComp elt [⟨tg,iter,ifs,0⟩] scope pos) (zd9 ts.length wi g tt te):=by
  intro pins s σ H Q I h;obtain⟨cl,hclos,hcl1,hcl2⟩:=da (scope:=scope) (env:=X.env) fun y hy hf=>I.ok.has y.1 (js hfree hy hf)
  rw[eval_ListComp];refine wpAny_comprehension_free (use:=none) rfl hs hclos hkind (ge hown) (thn (hi pins s σ H _ I h) fun v s1 h1=>thn h1 fun itv s2 h2 => ?_);obtain⟨it,fp,tn,J,H2,e,I2,T,st2,f2,hW⟩:=h2;subst e;refine d5 (RR:=fun acc C=>compPost (model X.prog X.w) X.A X.xe none (EP X pins σ Q) acc C) I2 hc T st2 f2 hkind hown hfree hout hcl1 hcl2 hg ht he hW ?_;intro D C s' H' ys hC hCD I' hD hCn hNs hl fin;obtain⟨m,hm⟩:=hNs;refine⟨m,hm,fun h' sb => ?_⟩
  have I'':Inv X pins σ (upd H' D (.lst ys)) { s' with heap:=h' }:=by
    refine I'.turned (t':=s'.toks) (it:=C) (fun b o hb e=>sb.extBut b o hb e) (by rw[zp hCD];exact hCn) (Ye (Zh I2.lt hC)) (.inr (Zd I2.sz hC)) (fun x c e => ?_) fun p hp => ?_
    . obtain⟨v,q⟩:=I2.cell x c e
      exact Zs (Zh q.lt hC)
    . exact Zs (Zh (Heap.lt_size (I2.pin p hp).1) hC)
  exact⟨.ref D,_,I'',rfl,fin D hD⟩
def tSetC(i:Nat)(te:TE):TS:=fun D σ H=>te σ H fun x H1=>D.nx (σ.set i (some x)) H1
theorem vm{X:Cx}{tg elt iter:Expr}{ifs:List Expr}{scope:Scope}{pos spos py:Pos}{i:Nat}{y:Str}(ts N2:List Str){wi:TI}{g:Dyn->TG}{tt:Dyn->TT}{te:Dyn->TE}(hN:X.N.Nodup)(hi':X.N[i]? = some y)(hy:X.env.scope.names.lookup y=some .local)(hc:X.calm=true)(hi:PI X tg iter wi)
    (hg:∀d,PG (y8 X scope (ts++N2) d) tg (g d)) (ht:∀d,PTs (y8 X scope (ts++N2) d) ifs (tt d)) (he:∀d,PE (y8 X scope (ts++N2) d) elt (te d))
    (hkind:scope.kind=.function) (hown:jn scope.names=true) (hfree:km scope.names X.env=true) (hout:uq scope.names N2 X.N=true)
    (hsw:swapsWith (.ListComp elt [⟨tg,iter,ifs,0⟩] scope pos) (some (.Name y py)) spos.line X.env=pure true)
    (hs:∀x,foldedSetIterable iter X.env x=pure x:=by intro _;rfl):PS X (.Assign [.Name y py] (.ListComp elt [⟨tg,iter,ifs,0⟩] scope pos) spos) (tSetC i (zd9 ts.length wi g tt te)):=by
  intro pins s σ H D0 I h;obtain⟨cl,hclos,hcl1,hcl2⟩:=da (scope:=scope) (env:=X.env) fun z hz hf=>I.ok.has z.1 (js hfree hz hf)
  rw[exec_Assign_Name_used _ _ _ _ hsw];refine wpAny_bind (wpAny_standAt (wpAny_bind ?_))
  show wpAny _ X.A (do let _ <-comprehension (.ListComp elt [⟨tg,iter,ifs,0⟩] scope pos) scope X.env _ (newList []) false (eval iter X.env) (some (assign (.Name y py) X.env))) _ _ s
  refine wpAny_bind (wpAny_mono (wpAny_comprehension_free (use:=some (assign (.Name y py) X.env)) (Q:=fun _ s'=>SP X pins D0 .next s') rfl hs hclos hkind (ge hown)
    (thn (hi pins s σ H _ I h) fun v s1 h1=>thn h1 fun itv s2 h2 => ?_)) (fun _ s' hq=>wpAny_pure (wpAny_pure hq)) fun _ _ e=>e)
  obtain⟨it,fp,tn,J,H2,e,I2,T,st2,f2,hW⟩:=h2;subst e;refine d5 (RR:=fun acc C=>compPost (model X.prog X.w) X.A X.xe (some (assign (.Name y py) X.env)) (fun _ s'=>SP X pins D0 .next s') acc C) I2 hc T st2 f2 hkind hown hfree hout hcl1 hcl2 hg ht he hW ?_;intro D C s' H' ys hC hCD I' hD hCn hNs hl fin;obtain⟨m,hm⟩:=hNs
  show wpAny _ _ _ _ _ _
  have hcl:C≠X.env.locals:=Ye (Zh I2.lt hC)
  have hcc:∀x c,X.env.cells.lookup x=some c->c≠C:=fun x c e=>by
    obtain⟨v,q⟩:=I2.cell x c e;exact Zs (Zh q.lt hC)
  refine wpAny_assign_Name (bv I' hN hi' (.inl hy) (v:=.ref D) (u:=.ref D) rfl (fun s'' I'' ⟨a,sb,ha⟩ => ?_) (.inr hy))
  have haC:C≠a:=by
    rcases ha with z | z
    . rw[z];exact hcl
    . exact Ne.symm (hcc y a z)
  refine⟨m,hm.sameBut sb haC,fun h' sb' => ?_⟩
  have I3:Inv X pins (σ.set i (some (.ref D))) (upd H' D (.lst ys)) { s'' with heap:=h' }:=by
    refine I''.turned (t':=s''.toks) (it:=C) (fun b o hb e=>sb'.extBut b o hb e) (by rw[zp hCD];exact hCn) hcl (.inr (Zd I2.sz hC)) hcc fun p hp => ?_
    exact Zs (Zh (Heap.lt_size (I2.pin p hp).1) hC)
  exact⟨_,_,I3,fin D hD⟩
section
variable{σ:St}{k:Nat}{g:TG}{tt:TT}{te:TE}{H1:Hp}{Fin:List V->Hp->Prop}
theorem x8{lo:Int}{n:Nat}(Pv:Nat->List V->Hp->Prop)(h0:Pv 0 [] H1)(hz:∀i ys H,i<=n->Pv i ys H->ys.length<=sizeLine)
    (hs:∀i ys H,i<n->Pv i ys H->g (.int (lo+i)) (List.replicate k none++σ) H fun σ2 H2=>σ2.drop k=σ/\tt σ2 H2 fun b H3=>if b=true then te σ2 H3 fun v H4=>Pv (i+1) (ys++[v]) H4 else Pv (i+1) ys H3)
    (hd:∀ys H,Pv n ys H->Fin ys H):sw (Itr lo n) σ k g tt te H1 Fin:=by
  refine⟨fun i m ys H=>m=n-i/\i<=n/\Pv i ys H,⟨n,by simp,ZE _,h0⟩,?_⟩
  rintro i m ys H ⟨rfl,hi,p⟩
  refine⟨hz i ys H hi p,?_⟩
  by_cases hlt:i<n
  . refine .inr ⟨hlt,Pv (i+1),fun ys' H' p'=>⟨n-(i+1),by omega,rfl,hlt,p'⟩,fun x H' y => ?_⟩
    obtain⟨e,y⟩:=y;subst e y;exact hs i ys _ hlt p
  . have e:i=n:=by omega
    subst e;exact .inl ⟨Zm _,hd ys H p⟩
theorem yf{K:Fg}{a:Addr}{xs:List V}(Pv:Nat->List V->Hp->Prop)(h0:Pv 0 [] H1)(hz:∀i ys H,i<=xs.length->Pv i ys H->ys.length<=sizeLine/\SqL K H a xs)
    (hs:∀i x ys H,xs[i]? = some x->Pv i ys H->g x (List.replicate k none++σ) H fun σ2 H2=>σ2.drop k=σ/\tt σ2 H2 fun b H3=>if b=true then te σ2 H3 fun v H4=>Pv (i+1) (ys++[v]) H4 else Pv (i+1) ys H3)
    (hd:∀ys H,Pv xs.length ys H->Fin ys H):sw (Itl K a) σ k g tt te H1 Fin:=by
  refine⟨fun i m ys H=>m=xs.length-i/\i<=xs.length/\Pv i ys H,⟨xs.length,by simp,ZE _,h0⟩,?_⟩
  rintro i m ys H ⟨rfl,hi,p⟩
  have q:=(hz i ys H hi p).2;refine⟨(hz i ys H hi p).1,?_⟩
  by_cases hlt:i<xs.length
  . refine .inr ⟨⟨xs,xs[i],q,by simp[hlt]⟩,Pv (i+1),fun ys' H' p'=>⟨xs.length-(i+1),by omega,rfl,hlt,p'⟩,fun x H' y => ?_⟩
    obtain⟨e,y⟩:=y;subst e;exact hs i x ys _ (y xs q) p
  . have e:i=xs.length:=by omega
    subst e;exact .inl ⟨⟨xs,q,Zm _⟩,hd ys H p⟩
end
end L2
namespace L2
open PySem PySem.Spec PyProof.Rows
section
variable{X:Cx}{pins:List (Addr×Obj)}{σ:St}{H:Hp}{s:Shared}{A:Around}{a b:Addr}
end
def GridL(K:Fg)(H:Hp)(a:Addr)(as:List Addr)(rows:List (List Int)):Prop:=SqL K H a (as.map V.ref)/\as.length=rows.length/\∀(i:Nat) (r:Addr) (ns:List Int),as[i]? = some r->rows[i]? = some ns->SqL K H r (ns.map V.int)
section
variable{X:Cx}{pins:List (Addr×Obj)}{σ:St}{H:Hp}{s:Shared}{A:Around}{a b:Addr}
end
def kit0(T1 T2:String):Option Bool:=if (Value.type T1==Value.type T2)=true then some true else if PySem.W.kitMeta T2=true then(fastBuiltinMro T1).map (·.contains (Value.type T2)) else none
theorem zh5(K:Fg)(T1 T2:String):PySem.W.kitOne K (.type T1) (.type T2)=kit0 T1 T2:=rfl
section
variable{X:Cx}
theorem xf:CallR X (.builtin "isinstance") (fun xs H Q=>∃x T T1 b,xs=[x,.ty T]/\TyOf X.K H x (.type T1)/\kit0 T1 T=some b/\Q (.bl b) H):=by
  intro pins s σ H xs us Q I r h;obtain⟨x,T,T1,b,rfl,ty,e,q⟩:=h;obtain⟨u,v,rfl,rx,ry⟩:=Vals.two r;cases ry;exact zg9 I rx ty ((zh5 X.K T1 T).trans e) fun tk=>⟨.bl b,H,I.tok _,rfl,q⟩
theorem sf {x:Str} {T:String} {pos:Pos} (hg:Gl X x) (hm:X.mg x=none) (hv:bootBuiltins x=some (.type T)) (hn:x ≠ "__name__" := by decide) (hd:(x==("__debug__" : Str))=false:=by decide):PE X (.Name x pos) (tC (.ty T)) :=
  zju hg hm hv rfl hn hd
end
theorem yd:bootBuiltins "len" = some (.builtin "len"):=by decide +kernel
theorem y4:bootBuiltins "isinstance" = some (.builtin "isinstance"):=by decide +kernel
theorem zgc:bootBuiltins "max" = some (.builtin "max"):=by decide +kernel
theorem zbl:bootBuiltins "min" = some (.builtin "min"):=by decide +kernel
theorem o8:bootBuiltins "all" = some (.builtin "all"):=by decide +kernel
theorem bt_abs:bootBuiltins "abs" = some (.builtin "abs"):=by decide +kernel
theorem zhg:bootBuiltins "int" = some (.type "int"):=by decide +kernel
theorem zj8:bootBuiltins "bool" = some (.type "bool"):=by decide +kernel
theorem i6:bootBuiltins "list" = some (.type "list"):=by decide +kernel
theorem wf:bootBuiltins "tuple" = some (.type "tuple"):=by decide +kernel
theorem zfj:bootBuiltins "str" = some (.type "str"):=by decide +kernel
theorem cu:bootBuiltins "dict" = some (.type "dict"):=by decide +kernel
theorem bt_set:bootBuiltins "set" = some (.type "set"):=by decide +kernel
theorem zgl:bootBuiltins "zip" = some (.type "zip"):=by decide +kernel
theorem za2:bootBuiltins "enumerate" = some (.type "enumerate"):=by decide +kernel
structure ze(K:Fg)(mg:Str->Option Value)(name:Str)(st:Stmt)(ps:List Str):Prop where
  ex:∃f fd,mg name=some (.ref f)/\Fun K name name st f fd/\Binds K fd ps []
structure FnAt(P:Program)(w:World)(K:Fg)(mg:Str->Option Value)(base:Heap)(name:Str)(k:Nat)(ps:List Str)(sp:Sp):Prop where
  ex:∃f fd,mg name=some (.ref f)/\PySem.W.keepIn K (.ref f)=true/\Binds K fd ps []/\FnOk P w K mg base CX0 k f fd ps sp
theorem FnAt.of{P:Program}{w:World}{K:Fg}{mg:Str->Option Value}{base:Heap}{name:Str}{st:Stmt}{N ps:List Str}{k:Nat}{sp:Sp}(D:ze K mg name st ps)(S:zq N ps (zl st))(len:∀vs H Q E,sp vs H Q E->vs.length=ps.length)
    (hbody:∀(f:Addr) (cdv:Value) (A:Around) (outer:List Env) (s:Shared) (H:Hp) (vs:List V) (Q:VK) (E:XK),Room k (A.deeper (envOfC name (zl st) s.heap.objs.size f cdv))->sp vs H Q E ->
      ∃t,PSs (cxOf CX0 P w K mg base N name (zl st) f cdv A outer s H E).nox (yy st) t/\t { nx:=fun _ H'=>Q .non H',rt:=Q } (start N vs) H):FnAt P w K mg base name (k+1) ps sp:=by
  obtain⟨f,fd,hm,F,hb⟩:=D.ex;exact⟨f,fd,hm,F.kp,hb,F.ok S len (hbody f)⟩
theorem def_mk{K:Fg}{h:Heap}{mg:Str->Option Value}(X:K.In h)(G:h.Ns mainGlobals mg){name:Str}{st:Stmt}{f:Addr}{oc:Value}{od an:Option Addr}{osl:Array (Option Value)}{kV doc pm cdv ct:Value}{ps:List Str}
    (a:PySem.W.nsIn K mainGlobals name=some (some (.ref f))) (l:K.lookup f=some ⟨oc,od,.func (PySem.W.fnOf name name (tm st) (yy st) (zl st) .none kV doc pm an cdv ct),osl⟩)
    (c:PySem.W.codeIn K cdv name=true) (k:PySem.W.keepIn K (.ref f)=true)
    (hb:∀(kV doc pm:Value) (an:Option Addr) (cdv ct:Value) (us:List Value),us.length=ps.length->bindArgs (PySem.W.fnOf name name (tm st) (yy st) (zl st) .none kV doc pm an cdv ct) ⟨us,[]⟩=pure (ps.zip us)):ze K mg name st ps :=
  ⟨f,_,PySem.W.mg_of X G a,zfs l c k,(zfs (st:=st) l c k).binds hb⟩
section
variable{X:Cx}{x:Str}{k:Nat}{ps:List Str}{sp:Sp}{p pos:Pos}{e:Expr}{es:List Expr}{t:TA}
theorem zh (F:FnAt X.prog X.w X.K X.mg X.base x k ps sp) (hr:Room k X.A) (hg:Gl X x) (ha:PA X (e::es) t) (hdb:(x==("__debug__" : Str))=false:=by decide) (he:starEach (e::es) X.env=(false,eval e X.env)::starEach es X.env:=by rfl)
    (hpl:(backTo pos (starEach es X.env)).any (·.1)=false:=by rfl):PE X (.Call (.Name x p) (e::es) [] pos) (aw sp [] E0 t):=by
  obtain⟨f,fd,hm,hk,hb,G⟩:=F.ex;exact zdu G hr hg hm hk hb .nil pass0 ha hdb he hpl
end
theorem cxK{CX:CXT}{P:Program}{w:World}{K:Fg}{mg:Str->Option Value}{base:Heap}{N:List Str}{qual:Str}{scope:Scope}{f:Addr}{cd:Value}{A:Around}{outer:List Env}{s:Shared}{H:Hp}{E:XK}:(cxOf CX P w K mg base N qual scope f cd A outer s H E).K=K:=rfl
section
variable{D:Ends}{σ:St}{H:Hp}{Q:VK}{QT:Bool->Hp->Prop}{QA:List V->Hp->Prop}{QS:St->Hp->Prop}{R:It->Hp->Prop}{a b c:TE}{s t:TS}{tt uu:TT}{ta tr:TA}{g:TG}{i:Nat}{v x y z:V}{r r':R2}{wi:TI}
theorem e_var:tVar i σ H Q=∃v,σ[i]? = some (some v)/\Q v H:=rfl
theorem e_C:tC v σ H Q=Q v H:=rfl
theorem e_op:tOp r a b σ H Q=a σ H fun x H1=>b σ H1 fun y H2=>r x y H2 Q:=rfl
theorem e_un{u:V->Hp->VK->Prop}:tUn u a σ H Q=a σ H fun x H1=>u x H1 Q:=rfl
theorem e_rI{C:Int->Int->Prop}{f:Int->Int->V}:rI C f x y H Q=∃i j,x=.int i/\y=.int j/\C i j/\Q (f i j) H:=rfl
theorem e_rI0{f:Int->Int->V}:rI0 f x y H Q=∃i j,x=.int i/\y=.int j/\Q (f i j) H:=rfl
theorem e_rU{f:Int->V}:rU f x H Q=∃i,x=.int i/\Q (f i) H:=rfl
theorem e_rEq:rEq x y H Q=(scal x y=true/\Q (.bl (decide (x=y))) H):=rfl
theorem e_rNe:rNe x y H Q=(scal x y=true/\Q (.bl (!decide (x=y))) H):=rfl
theorem e_ixL{K:Fg}:rIxL K x y H Q=∃p xs i v,x=.ref p/\y=.int i/\SqL K H p xs/\atI xs i=some v/\Q v H:=rfl
theorem e_ixT{K:Fg}:rIxT K x y H Q=∃p xs i v,x=.ref p/\y=.int i/\SqT K H p xs/\atI xs i=some v/\Q v H:=rfl
theorem e_set{o i v:V}{Q:Hp->Prop}:rSetL o i v H Q=∃p xs k j,o=.ref p/\i=.int k/\H p=some (.lst xs)/\ixN xs.length k=some j/\Q (upd H p (.lst (xs.set j v))):=rfl
theorem e_cat:rCat x y H Q=∃l b xs zs,x=.ref l/\y=.ref b/\H l=some (.lst xs)/\H b=some (.lst zs)/\xs.length+zs.length<=sizeLine/\∀p,H p=none->Q (.ref p) (upd H p (.lst (xs++zs))):=rfl
theorem e_test:zeg a σ H QT=a σ H fun x H'=>∃k,x=.bl k/\QT k H':=rfl
theorem e_B:tB a σ H QT=a σ H fun x H1=>∃c,x=.bl c/\QT c H1:=rfl
theorem e_and:tAnd tt uu σ H QT=tt σ H fun c H1=>if c=true then uu σ H1 QT else QT false H1:=rfl
theorem e_or:tOr tt uu σ H QT=tt σ H fun c H1=>if c=true then QT true H1 else uu σ H1 QT:=rfl
theorem e_not:tNot tt σ H QT=tt σ H fun c H1=>QT (!c) H1:=rfl
theorem e_andV:tAndV a b σ H Q=a σ H fun x H1=>∃c,x=.bl c/\if c=true then b σ H1 Q else Q (.bl false) H1:=rfl
theorem e_orV:tOrV a b σ H Q=a σ H fun x H1=>∃c,x=.bl c/\if c=true then Q (.bl true) H1 else b σ H1 Q:=rfl
theorem e_notV:tNotV a σ H Q=a σ H fun x H1=>∃c,x=.bl c/\Q (.bl (!c)) H1:=rfl
theorem e_ifE:tIf tt a b σ H Q=tt σ H fun c H1=>if c=true then a σ H1 Q else b σ H1 Q:=rfl
theorem e_all:tAll σ H QT=QT true H:=rfl
theorem e_next:tNext D σ H=D.nx σ H:=rfl
theorem e_seq:tSeq s t D σ H=s { D with nx:=t D } σ H:=rfl
theorem e_brk:tBreak D σ H=D.bk σ H:=rfl
theorem e_cnt:tCont D σ H=D.ct σ H:=rfl
theorem e_drop:tDrop a D σ H=a σ H fun _ H1=>D.nx σ H1:=rfl
theorem e_ret:tRet a D σ H=a σ H D.rt:=rfl
theorem e_retN:tRetN D σ H=D.rt .non H:=rfl
theorem e_ifS:tIfS tt s t D σ H=tt σ H fun b H1=>if b=true then s D σ H1 else t D σ H1:=rfl
theorem e_asg:tAsg a g D σ H=a σ H fun x H1=>g x σ H1 D.nx:=rfl
theorem zcz:ze8 i v σ H QS=QS (σ.set i (some v)) H:=rfl
theorem e_setC:tSetC i a D σ H=a σ H fun x H1=>D.nx (σ.set i (some x)) H1:=rfl
theorem e_augS{tget:V->V->Hp->VK->Prop}{tip:TIp}{tset:TSet}:tAugS a b c tget tip tset D σ H=a σ H fun o H1=>b σ H1 fun i H2=>tget o i H2 fun x H3=>c σ H3 fun y H4=>tip x y H4 fun z H5=>tset o i z H5 fun H6=>D.nx σ H6:=rfl
theorem e_ipI{f:Int->Int->Int}:ipI f x y H Q=∃i j,x=.int i/\y=.int j/\Q (.int (f i j)) H:=rfl
theorem e_nil:tNil σ H QA=QA [] H:=rfl
theorem e_cons:zea a ta σ H QA=a σ H fun x H1=>ta σ H1 fun xs H2=>QA (x::xs) H2:=rfl
theorem e_tup:tTup ta σ H Q=ta σ H fun xs H1=>xs.length<=sizeLine/\∀p,H1 p=none->Q (.ref p) (upd H1 p (.tup xs)):=rfl
theorem e_lst:tLst ta σ H Q=ta σ H fun xs H1=>xs.length<=sizeLine/\∀p,H1 p=none->Q (.ref p) (upd H1 p (.lst xs)):=rfl
theorem e_call{sp:Sp}{E:XK}:aw sp [] E ta σ H Q=ta σ H fun vs H1=>sp (vs++[]) H1 Q E:=rfl
theorem e_CB{u:List V->Hp->VK->Prop}:tCB u ta σ H Q=ta σ H fun vs H1=>u vs H1 Q:=rfl
theorem e_BM{K:Fg}{T:String}{u:V->List V->Hp->VK->Prop}:tBM K T u a ta σ H Q=a σ H fun x H1=>tyV K T x H1/\ta σ H1 fun xs H2=>u x xs H2 Q:=rfl
theorem e_app{vs:List V}:zcl x vs H Q=∃l xs y,x=.ref l/\vs=[y]/\H l=some (.lst xs)/\xs.length<sizeLine/\Q .non (upd H l (.lst (xs++[y]))):=rfl
theorem e_rng1:iRng1 ta σ H R=ta σ H fun vs H1=>∃j:Int,vs=[.int j] /\ -(2^62)<=j/\j<2^62/\R (Itr 0 j.toNat) H1:=rfl
theorem e_rng2:iRng2 ta σ H R=ta σ H fun vs H1=>∃i j:Int,vs=[.int i,.int j]/\(-(2^62)<=i/\i<2^62 /\ -(2^62)<=j/\j<2^62)/\R (Itr i (j-i).toNat) H1:=rfl
theorem e_iL{K:Fg}:iList K a σ H R=a σ H fun x H1=>∃p,x=.ref p/\(∃xs,SqL K H1 p xs)/\R (Itl K p) H1:=rfl
def ForW(J:It)(g:TG)(tb:TS)(D:Ends)(σ:St)(H1:Hp):Prop:=∃W:Nat->Nat->St->Hp->Prop,(∃m,W 0 m σ H1)/\∀i m σ H,W i m σ H ->
  (J.stop i H/\D.nx σ H)\/(J.go i H/\∃N:St->Hp->Prop,(∀σ' H',N σ' H'->∃m',m'<m/\W (i+1) m' σ' H')/\∀x H',J.yld i H x H'->g x σ H' fun σ2 H2=>tb { D with nx:=N,ct:=N,bk:=D.nx } σ2 H2)
theorem e_for:tFor wi g t D σ H=wi σ H fun J H1=>ForW J g t D σ H1:=rfl
theorem e_comp{k:Nat}{g:Dyn->TG}{tt:Dyn->TT}{te:Dyn->TE}:zd9 k wi g tt te σ H Q=wi σ H fun J H1=>∀d:Dyn,sw J σ k (g d) (tt d) (te d) H1 fun ys H'=>∀l,H' l=none->Q (.ref l) (upd H' l (.lst ys)):=rfl
end
end L2
namespace L2
open PySem PySem.Spec PyProof.Rows
section
variable{X:Cx}
theorem ud(hc:X.calm=true):CallR X (.builtin "all") (fun xs H Q=>∃(p:Addr) (bs:List Bool),xs=[.ref p]/\SqL X.K H p (bs.map V.bl)/\Q (.bl (bs.all id)) H):=by
  intro pins s σ H xs us Q I r h;obtain⟨p,bs,rfl,hq,q⟩:=h;obtain⟨u,rfl,rx⟩:=Vals.one r;cases rx;obtain⟨its,rv,pl,hz⟩:=I.list hq;have hlt:p<s.heap.objs.size:=by obtain⟨_,e,_⟩:=pl.isList;exact Heap.lt_size e
  have hlen:its.length=bs.length:=by have:=rv.length;rw[Za]at this;exact this.symm
  refine call_all_walk (wpAny_pyIter_list pl.isList ?_)
  refine⟨s.heap.objs.size,[s.heap.objs.size,p],[s.heap.objs.size],its.toArray.size,_,_,fun i=>(bs[i]?).getD true,rfl,Walks.list (A:=X.A.in1) (I.ok.hd hc) _ p (Zs hlt) its.toArray,
    ⟨⟨_,Heap.get?_push_size _ rfl,rfl,rfl⟩,pl.isList.push _⟩,fun i v s' Q' E' hP hQ => ?_,fun h' tk hk => ?_⟩
  . have hi:its[i]? = some v:=by simpa using hP
    have hil:i<bs.length:=by rw[<-hlen];exact(Zc.mp hi).1
    have e:bs[i]? = some bs[i]:=by simp[hil]
    obtain⟨u,hu,ru⟩:=rv.get (i:=i) (x:=V.bl bs[i]) (by rw[Ze,e];rfl);rw[hi]at hu;cases hu;cases ru;simp only[e,YL]at hQ;exact wpAny_truthy_bool hQ
  . have e:((List.range its.toArray.size).all fun i=>(bs[i]?).getD true)=bs.all id:=by
      rw[Zr,hlen];rw[Bool.eq_iff_iff,ZT,ZT]
      constructor
      . intro z b hb
        obtain⟨i,hi,rfl⟩:=Zy hb;have:=z i (ZV.mpr hi)
        simpa[Zb hi] using this
      . intro z i hi
        have hi':=ZV.mp hi;simp only[Zb hi',YL];exact z _ (Zl hi')
    rw[e];exact⟨.bl (bs.all id),H,I.kept fun b x e=>hk b x (fun hm=>by rw[ZC.mp hm]at e;exact ZJ _ (Heap.lt_size e)) (Heap.get?_push_of_some _ e),rfl,q⟩
end
def Itz(K:Fg)(a b:Addr):It :=
  ⟨fun i H=>∃xs ys x y,SqL K H a xs/\SqL K H b ys/\xs[i]? = some x/\ys[i]? = some y,
   fun i H v H'=>∃T x y,v=.ref T/\H T=none/\H'=upd H T (.tup [x,y])/\∀xs ys,SqL K H a xs->SqL K H b ys->xs[i]? = some x/\ys[i]? = some y,
   fun i H=>∃xs ys,SqL K H a xs/\SqL K H b ys/\(xs.length<=i\/ys.length<=i)⟩
structure zas(z TI TO i1 i2:Addr):Prop where
  TIz:TI≠z
  TOz:TO≠z
  i1z:i1≠z
  i2z:i2≠z
  TITO:TI≠TO
  TIi1:TI≠i1
  TIi2:TI≠i2
  TOi1:TO≠i1
  TOi2:TO≠i2
  i12:i1≠i2
def tnZip(z TI TO i1 i2 l1 l2:Addr)(i:Nat)(h:Heap):Prop:=IsZip h z TI TO .none/\IsPair h TI (.ref i1) (.ref i2)/\(∃a b,IsPair h TO a b)/\h.IsListIter i1 l1 i/\h.IsListIter i2 l2 i
theorem bp{z TI TO i1 i2 l1 l2:Addr}{i:Nat}{h:Heap}{xs ys:Array Value}(D:zas z TI TO i1 i2)(t:tnZip z TI TO i1 i2 l1 l2 i h)(h1:h.IsList l1 xs)(h2:h.IsList l2 ys):ZipApart z TI TO i1 i2 l1 l2:=by
  obtain⟨hz,hTI,⟨a,b,hTO⟩,k1,k2⟩:=t
  have n1:∀{l:Addr} {ws:Array Value},h.IsList l ws->l≠z:=fun {l ws} q e=>by
    obtain⟨o,e1,c,_⟩:=q;subst e;rw[hz]at e1;cases e1;simp at c
  have n2:∀{l:Addr} {ws:Array Value},h.IsList l ws->l≠TO:=fun {l ws} q e=>by
    obtain⟨o,e1,c,_⟩:=q;subst e;rw[hTO]at e1;cases e1;simp at c
  have n3:∀{l j l':Addr} {k:Nat} {ws:Array Value},h.IsListIter j l' k->h.IsList l ws->l≠j:=fun {l j l' k ws} k1 q e=>by
    obtain⟨o,e1,c,_⟩:=q;obtain⟨o',e1',c',_⟩:=k1;subst e;rw[e1']at e1;cases e1;rw[c']at c;simp at c
  exact⟨D.TIz,D.TOz,D.i1z,D.i2z,D.TITO,D.TIi1,D.TIi2,D.TOi1,D.TOi2,D.i12,n1 h1,n2 h1,n3 k1 h1,n3 k2 h1,n1 h2,n2 h2,n3 k1 h2,n3 k2 h2⟩
theorem Inv.turnedLaid{X:Cx}{pins:List (Addr×Obj)}{σ:St}{H:Hp}{s:Shared}{h':Heap}{t':Nat}{ch:List Addr}{T:Addr}{o:HO}(I:Inv X pins σ H s)(hf:∀b∈ch,FpOk X pins H b)
    (k:∀b o,b∉ch->s.heap.get? b=some o->h'.get? b=some o) (hT:s.heap.objs.size<=T) (new:ObjOk X.prog X.w (upd H T o) h' T o):Inv X pins σ (upd H T o) { s with heap:=h',toks:=t' }:=by
  have nch:∀b u,H b=some u->b∉ch:=fun b u e z=>by rw[(hf b z).1]at e;cases e
  have nT:∀b u,H b=some u->b≠T:=fun b u e=>Zs (Zh (I.hok.lt e) hT)
  have nT':∀b u,s.heap.get? b=some u->b≠T:=fun b u e=>Zs (Zh (Heap.lt_size e) hT)
  refine I.step (g':=s.gens) (d':=s.drawn) (ch:=ch) (fun b hb => ?_) (fun b o _ _ hc e _=>k b o hc e) (fun b o _ _ hc e _=>⟨o.slots,k b o hc e⟩) (fun b o _ e n=>by rw[zp (nT' b o e)];exact n)
    (fun b o hc e=>⟨o,k b o hc e⟩) (fun b xs e=>by rw[zp (nT b _ e)];exact e) (fun b ob u e=>by rw[zp (nT b _ e)];exact e) (fun b ps e=>⟨#[],by rw[zp (nT b _ e),e];simp⟩) (fun m hm => ?_) (fun b u e => ?_) I.bare
  . obtain⟨f0,f1,f2,f3,f4,f5⟩:=hf b hb
    exact⟨f3,f1,f4,f5⟩
  . obtain⟨ob,es,ep,ho,r⟩:=hm
    exact⟨ob,es,ep,k _ ob (fun z=>(hf _ z).2.1 rfl) ho,r⟩
  . by_cases hb:b=T
    . subst hb
      rw[zc]at e;cases e;exact new
    . rw[zp hb]at e
      refine(I.hok b u e).stay (fun c v hc q=>k c v ?_ q) (fun c q=>by rw[zp (nT c _ q)];exact q) fun c xs q=>by rw[zp (nT c _ q)];exact q
      rcases hc with z | z
      . rw[z];exact nch b u e
      . exact nch c _ z
theorem zht{P:Program}{w:World}{K:Fg}{elts:List Expr}{x1:Nat}{pos:Pos}(z TI TO i1 i2 l1 l2:Addr)(D:zas z TI TO i1 i2) :
    Turn P w K (.Tuple elts x1 pos) (Itz K l1 l2) [z,TI,TO,i1,i2] z (tnZip z TI TO i1 i2 l1 l2) where
  mem:=by simp
  obj:=fun i h st b hb=>by
    obtain⟨hz,hTI,⟨a,b',hTO⟩,⟨o1,e1,c1,d1⟩,⟨o2,e2,c2,d2⟩⟩:=st;simp only[ZK,Zx,or_false]at hb
    rcases hb with rfl | rfl | rfl | rfl | rfl
    . exact⟨_,hz,fun v q=>by cases q⟩
    . exact⟨_,hTI,fun v q=>by cases q⟩
    . exact⟨_,hTO,fun v q=>by cases q⟩
    . exact⟨o1,e1,fun v q=>by rw[d1]at q;cases q⟩
    . exact⟨o2,e2,fun v q=>by rw[d2]at q;cases q⟩
  keep:=fun i h h' st k=>by
    obtain⟨hz,hTI,⟨a,b,hTO⟩,h1,h2⟩:=st;exact⟨k z (by simp) _ hz,k TI (by simp) _ hTI,⟨a,b,k TO (by simp) _ hTO⟩,h1.at fun o e=>k i1 (by simp) o e,h2.at fun o e=>k i2 (by simp) o e⟩
  item:=by
    intro X hP hw hK hc i pins s σ H E I hf st hg;subst hP hw hK;obtain⟨xs,ys,x,y,qa,qb,hx,hy⟩:=hg;obtain⟨us,ru,pu,zu⟩:=I.list qa;obtain⟨vs,rv,pv',zv⟩:=I.list qb;obtain⟨u,hu,rxu⟩:=ru.get hx;obtain⟨v,hv,ryv⟩:=rv.get hy;have A:=bp D st pu.isList pv'.isList;obtain⟨hz,hTI,⟨a,b,hTO⟩,h1,h2⟩:=id st;refine wpAny_pyNext_zip_item A hz hTI hTO h1 h2 pu.isList pv'.isList (x:=u) (y:=v) (by simpa using hu) (by simpa using hv) fun h' a1 a2 a3 a4 a5 a6 hk => ?_
    have ltT:∀{c o},s.heap.get? c=some o->c≠s.heap.objs.size:=fun e=>Zs (Heap.lt_size e)
    refine⟨_,rfl,wpAny_letOwnedTupleGo_zip (s:={ s with heap:=h' }) a1 fun h'' b1 sb => ?_⟩;have hTz:s.heap.objs.size≠z:=Ne.symm (ltT hz)
    have hf4:∀b∈[z,TO,i1,i2],FpOk X pins H b:=fun b hb=>hf b (by
      simp only[ZK,Zx,or_false]at hb ⊢
      rcases hb with h | h | h | h <;> simp[h])
    have I1:Inv X pins σ (upd H s.heap.objs.size (.tup [x,y])) { s with heap:=h'',toks:=s.toks }:=I.turnedLaid (ch:=[z,TO,i1,i2]) hf4 (fun b o hb e=>by
      simp only[ZK,Zx,or_false,not_or]at hb
      exact sb.extBut b o hb.1 (hk b o hb.1 hb.2.1 hb.2.2.1 hb.2.2.2 e)) (Zm _) ⟨by show 2<=sizeLine;decide,[u,v],.cons rxu (.cons ryv .nil),by
        have e:=sb.extBut _ _ hTz a5
        exact⟨_,e,rfl,_,rfl,rfl⟩⟩
    refine⟨.ref s.heap.objs.size,_,I1,rfl,⟨s.heap.objs.size,x,y,rfl,I.hok.fresh (Zm _),rfl,fun xs' ys' q1 q2 => ?_⟩,?_,fun b hb => ?_⟩
    . rw[I.list_inj q1 qa,I.list_inj q2 qb]
      exact⟨hx,hy⟩
    . exact⟨b1,sb.extBut _ _ A.TIz (hk _ _ A.TIz A.TITO A.TIi1 A.TIi2 hTI),⟨_,_,sb.extBut _ _ A.TOz a2⟩,a3.extBut sb.extBut A.i1z,a4.extBut sb.extBut A.i2z⟩
    . have hb':=(hf b hb).1
      rw[zp ?_]
      . exact hb'
      . simp only[ZK,Zx,or_false]at hb
        rcases hb with rfl | rfl | rfl | rfl | rfl
        . exact ltT hz
        . exact ltT hTI
        . exact ltT hTO
        . obtain⟨_,e,_⟩:=h1;exact ltT e
        . obtain⟨_,e,_⟩:=h2;exact ltT e
  done:=by
    intro X hP hw hK hc i pins s σ H E I hf st hg;subst hP hw hK;obtain⟨xs,ys,qa,qb,hend⟩:=hg;obtain⟨us,ru,pu,zu⟩:=I.list qa;obtain⟨vs,rv,pv',zv⟩:=I.list qb;have A:=bp D st pu.isList pv'.isList;obtain⟨hz,hTI,⟨a,b,hTO⟩,h1,h2⟩:=id st;have l1':=ru.length;have l2':=rv.length
    refine wpAny_pyNext_zip_end (I.ok.hd hc) A hz hTI hTO h1 h2 pu.isList pv'.isList (by
      rcases hend with h | h
      . left;simp;omega
      . right;simp;omega) fun h' hk=>⟨rfl,?_⟩
    have nch:∀b u,H b=some u->b∉[z,TO,i1,i2]:=fun b u e q=>by
      have:=(hf b (by simp only[ZK,Zx,or_false]at q ⊢;rcases q with h | h | h | h <;> simp[h])).1;rw[this]at e;cases e
    have k:∀b o,b∉[z,TO,i1,i2]->s.heap.get? b=some o->h'.get? b=some o:=fun b o hb e=>by
      simp only[ZK,Zx,or_false,not_or]at hb;exact hk b o hb.1 hb.2.1 hb.2.2.1 hb.2.2.2 e
    have hf4:∀b∈[z,TO,i1,i2],FpOk X pins H b:=fun b hb=>hf b (by
      simp only[ZK,Zx,or_false]at hb ⊢
      rcases hb with h | h | h | h <;> simp[h])
    exact I.step (g':=s.gens) (d':=s.drawn) (t':=s.toks) (ch:=[z,TO,i1,i2]) (fun b hb=>by
        obtain⟨f0,f1,f2,f3,f4,f5⟩:=hf4 b hb
        exact⟨f3,f1,f4,f5⟩) (fun b o _ _ hc e _=>k b o hc e) (fun b o _ _ hc e _=>⟨o.slots,k b o hc e⟩) (fun b o _ e n=>n)
      (fun b o hc e=>⟨o,k b o hc e⟩) (fun b xs e=>e) (fun b ob u e=>e) (fun b ps e=>⟨#[],by rw[e];simp⟩) (fun m hm=>by
        obtain⟨ob,es,ep,ho,r⟩:=hm
        exact⟨ob,es,ep,k _ ob (fun q=>(hf4 _ q).2.1 rfl) ho,r⟩) (fun b u e=>(I.hok b u e).stay (fun c v hc q=>k c v (by
          rcases hc with r | r
          . rw[r];exact nch b u e
          . exact nch c _ r) q) (fun _ q=>q) fun _ _ q=>q) I.bare
  self:=fun _ _ _ _ _ st h=>wpAny_pyIter_zip st.1 h
def iZip(K:Fg)(ta:TA):TI:=fun σ H R=>ta σ H fun vs H1=>∃a b,vs=[.ref a,.ref b]/\(∃xs,SqL K H1 a xs)/\(∃ys,SqL K H1 b ys)/\R (Itz K a b) H1
theorem pi_zip {X:Cx} {a b:Expr} {ta:TA} {p pos tpos:Pos} {elts:List Expr} {x1:Nat} (hg:Gl X "zip") (hm:X.mg "zip" = none) (ha:PA X [a,b] ta) (hs:starEach [a,b] X.env=[(false,eval a X.env),(false,eval b X.env)]:=by rfl) (hs2:starEach [b] X.env=[(false,eval b X.env)]:=by rfl) :
    PI X (.Tuple elts x1 tpos) (.Call (.Name "zip" p) [a,b] [] pos) (iZip X.K ta):=by
  intro pins s σ H R I h;refine Call_ (vi I hg hm zgl (PyProof.Rows.callWith_type1 (thn (ha pos pins s σ H _ I h) fun us s1 ⟨vs,H1,I1,r1,q1⟩ => ?_) (by rw[hs,hs2]) (by rw[hs2];rfl)));obtain⟨a,b,e,⟨xs,qa⟩,⟨ys,qb⟩,q⟩:=q1;subst e;obtain⟨u,v,rfl,ru,rv⟩:=Vals.two r1;cases ru;cases rv;obtain⟨its,_,pa,_⟩:=I1.list qa;obtain⟨jts,_,pb,_⟩:=I1.list qb;refine call_zip_2 pa.isList pb.isList fun h' z1 z2 z3 z4 z5 z6 kp => ?_
  refine wpAny_pyIter_zip (s:={ s1 with heap:=h' }) z1 ?_;have I2:Inv X pins σ H1 { s1 with heap:=h' }:=I1.kept (t':=s1.toks) kp;have D:zas (s1.heap.objs.size+4) (s1.heap.objs.size+2) (s1.heap.objs.size+3) s1.heap.objs.size (s1.heap.objs.size+1):=by constructor <;> (show(_:Nat)≠_;omega)
  refine⟨s1.heap.objs.size+4,[s1.heap.objs.size+4,s1.heap.objs.size+2,s1.heap.objs.size+3,s1.heap.objs.size,s1.heap.objs.size+1],_,_,H1,rfl,I2,zht _ _ _ _ _ a b D,⟨z1,z2,⟨_,_,z3⟩,z4,z5⟩,fun c hc => ?_,q⟩
  have hle:s1.heap.objs.size<=c:=by
    simp only[ZK,Zx,or_false]at hc
    rcases hc with h | h | h | h | h <;> (rw[h];omega)
  exact I1.fpOk hle (I1.hok.fresh hle)
theorem e_zip{K:Fg}{ta:TA}{σ:St}{H:Hp}{R:It->Hp->Prop}:iZip K ta σ H R=ta σ H fun vs H1=>∃a b,vs=[.ref a,.ref b]/\(∃xs,SqL K H1 a xs)/\(∃ys,SqL K H1 b ys)/\R (Itz K a b) H1:=rfl
theorem e_gTup{K:Fg}{n:Nat}{t:TGs}{v:V}{σ:St}{H:Hp}{Q:St->Hp->Prop}:gTup K n t v σ H Q=∃a xs,v=.ref a/\SqT K H a xs/\xs.length=n/\t xs σ H Q:=rfl
theorem e_gNil{vs:List V}{σ:St}{H:Hp}{Q:St->Hp->Prop}:gNil vs σ H Q=(vs=[]/\Q σ H):=rfl
theorem zi3{t:TG}{u:TGs}{vs:List V}{σ:St}{H:Hp}{Q:St->Hp->Prop}:gCons t u vs σ H Q=∃v r,vs=v::r/\t v σ H fun σ' H'=>u r σ' H' Q:=rfl
end L2
namespace L2
open PySem PySem.Spec PyProof.Rows
section
variable{X:Cx}
end
section
variable{X:Cx}
end
theorem e_gSub{to ti:TE}{t:TSet}{v:V}{σ:St}{H:Hp}{Q:St->Hp->Prop}:gSub to ti t v σ H Q=to σ H fun o H1=>ti σ H1 fun i H2=>t o i v H2 fun H3=>Q σ H3:=rfl
theorem e_rep{x y:V}{H:Hp}{Q:VK}:rRep x y H Q=∃l k xs,x=.ref l/\y=.int k/\H l=some (.lst xs) /\ -(2^63)<=k/\k<2^63/\xs.length*k.toNat<=sizeLine/\∀p,H p=none->Q (.ref p) (upd H p (.lst (List.replicate k.toNat xs).flatten)):=rfl
end L2
namespace L2
open PySem PySem.Spec PyProof.Rows
section
variable{σ:St}{k:Nat}{g:TG}{tt:TT}{te:TE}{H1:Hp}{Fin:List V->Hp->Prop}
theorem zic{K:Fg}{a b:Addr}{xs zs:List V}(Pv:Nat->List V->Hp->Prop)(h0:Pv 0 [] H1)(hz:∀i ys H,i<=min xs.length zs.length->Pv i ys H->ys.length<=sizeLine/\SqL K H a xs/\SqL K H b zs)
    (hs:∀i x z ys H T,xs[i]? = some x->zs[i]? = some z->H T=none->Pv i ys H->g (.ref T) (List.replicate k none++σ) (upd H T (.tup [x,z])) fun σ2 H2=>σ2.drop k=σ/\tt σ2 H2 fun b H3=>if b=true then te σ2 H3 fun v H4=>Pv (i+1) (ys++[v]) H4 else Pv (i+1) ys H3)
    (hd:∀ys H,Pv (min xs.length zs.length) ys H->Fin ys H):sw (Itz K a b) σ k g tt te H1 Fin:=by
  refine⟨fun i m ys H=>m=min xs.length zs.length-i/\i<=min xs.length zs.length/\Pv i ys H,⟨min xs.length zs.length,by simp,ZE _,h0⟩,?_⟩
  rintro i m ys H ⟨rfl,hi,p⟩
  obtain⟨q0,qa,qb⟩:=hz i ys H hi p;refine⟨q0,?_⟩
  by_cases hlt:i<min xs.length zs.length
  . have h1:i<xs.length:=by omega
    have h2:i<zs.length:=by omega
    refine .inr ⟨⟨xs,zs,xs[i],zs[i],qa,qb,by simp[h1],by simp[h2]⟩,Pv (i+1),fun ys' H' p'=>⟨min xs.length zs.length-(i+1),by omega,rfl,hlt,p'⟩,fun x H' y => ?_⟩;obtain⟨T,x',z',rfl,hT,rfl,hy⟩:=y;obtain⟨e1,e2⟩:=hy xs zs qa qb;exact hs i x' z' ys _ T e1 e2 hT p
  . have e:i=min xs.length zs.length:=by omega
    subst e;exact .inl ⟨⟨xs,zs,qa,qb,by omega⟩,hd ys H p⟩
end
theorem e_slL{K:Fg}{x:V}{lo hi:Option Int}{H:Hp}{Q:VK}:rSlL K x lo hi H Q=∃a xs,x=.ref a/\SqL K H a xs/\∀p,H p=none->Q (.ref p) (upd H p (.lst (cutV xs lo hi))):=rfl
theorem e_tSl{r:V->Option Int->Option Int->Hp->VK->Prop}{te:TE}{tl th:TO}{σ:St}{H:Hp}{Q:VK}:tSl r te tl th σ H Q=te σ H fun x H1=>tl σ H1 fun l H2=>th σ H2 fun u H3=>r x l u H3 Q:=rfl
theorem zif{σ:St}{H:Hp}{Q:Option Int->Hp->Prop}:zcr σ H Q=Q none H:=rfl
theorem e_part{t:TE}{σ:St}{H:Hp}{Q:Option Int->Hp->Prop}:tPart t σ H Q=t σ H fun x H1=>∃i,x=.int i/\Q (some i) H1:=rfl
end L2
namespace L2
open PySem PySem.Spec PyProof.Rows
section
variable{σ:St}{H:Hp}{Q:VK}{a b c:TE}{x:V}{vs:List V}{r r':R2}
theorem e_BM0{K:Fg}{T:String}{u:V->List V->Hp->VK->Prop}:tBM0 K T u a σ H Q=a σ H fun x H1=>tyV K T x H1/\u x [] H1 Q:=rfl
theorem zjb:az r r' a b c σ H Q=a σ H fun x H1=>b σ H1 fun y H2=>r x y H2 fun z H3=>∃k,z=.bl k/\(if k=true then c σ H3 fun w' H4=>r' y w' H4 Q else Q (.bl false) H3):=rfl
theorem zi5:zbr σ H Q=∀p,H p=none->Q (.ref p) (upd H p (.dK [])):=rfl
theorem ziv{X:Cx}{pos:Pos}:PE X (.Dict [] [] pos) zbr:=zii
theorem e_in{K:Fg}{neg:Bool}{y:V}:rIn K neg x y H Q=∃p xs,y=.ref p/\(SqL K H p xs\/SqT K H p xs)/\wv x=true/\xs.all wv=true/\Q (.bl (if neg then !inV x xs else inV x xs)) H:=rfl
end
theorem nu {X:Cx} {x:Str} {i:Int} {pos:Pos} (hg:Gl X x) (hm:∃t,X.mg x=some (Value.int i t)) (hd:(x==("__debug__" : Str))=false:=by decide):PE X (.Name x pos) (tC (.int i)):=by
  obtain⟨t,hm⟩:=hm;exact cn hg hm ⟨t,rfl⟩ hd
def Ite(K:Fg)(a:Addr):It :=
  ⟨fun i H=>∃xs x,SqL K H a xs/\xs[i]? = some x,
   fun i H v H'=>∃T x,v=.ref T/\H T=none/\H'=upd H T (.tup [.int i,x])/\∀xs,SqL K H a xs->xs[i]? = some x,
   fun i H=>∃xs,SqL K H a xs/\xs.length<=i⟩
def tnEnum(e it l:Addr)(i:Nat)(h:Heap):Prop:=(∃old,IsEnum h e it i old)/\h.IsListIter it l i
theorem zfk{P:Program}{w:World}{K:Fg}{elts:List Expr}{x1:Nat}{pos:Pos}(e it l:Addr)(hne:e≠it) :
    Turn P w K (.Tuple elts x1 pos) (Ite K l) [e,it] e (tnEnum e it l) where
  mem:=by simp
  obj:=fun i h st b hb=>by
    obtain⟨⟨old,he⟩,⟨o1,e1,c1,d1⟩⟩:=st;simp only[ZK,Zx,or_false]at hb
    rcases hb with rfl | rfl
    . exact⟨_,he,fun v q=>by cases q⟩
    . exact⟨o1,e1,fun v q=>by rw[d1]at q;cases q⟩
  keep:=fun i h h' st k=>by
    obtain⟨⟨old,he⟩,h1⟩:=st;exact⟨⟨old,k e (by simp) _ he⟩,h1.at fun o q=>k it (by simp) o q⟩
  item:=by
    intro X hP hw hK hc i pins s σ H E I hf st hg;subst hP hw hK;obtain⟨xs,x,qa,hx⟩:=hg;obtain⟨us,ru,pu,zu⟩:=I.list qa;obtain⟨u,hu,rxu⟩:=ru.get hx;obtain⟨⟨old,he⟩,h1⟩:=id st;refine wpAny_pyNext_enum_item he h1 pu.isList (x:=u) (by simpa using hu) hne fun h' a1 a2 a3 a4 hk => ?_
    have ltT:∀{c o},s.heap.get? c=some o->c≠s.heap.objs.size:=fun q=>Zs (Heap.lt_size q)
    have hit1:it≠s.heap.objs.size:=by obtain⟨_,q,_⟩:=h1;exact ltT q
    have hTe:s.heap.objs.size≠e:=Ne.symm (ltT he);refine⟨_,rfl,wpAny_letOwnedTupleGo_enum (s:={ s with heap:=h',toks:=s.toks+1 }) a1 fun h'' b1 sb => ?_⟩
    have I1:Inv X pins σ (upd H s.heap.objs.size (.tup [.int i,x])) { s with heap:=h'',toks:=s.toks+1 }:=I.turnedLaid (ch:=[e,it]) hf (fun b o hb q=>by
      simp only[ZK,Zx,or_false,not_or]at hb
      exact sb.extBut b o hb.1 (hk b o hb.1 hb.2 q)) (Zm _) ⟨by show 2<=sizeLine;decide,[.int i s.toks,u],.cons ⟨_,rfl⟩ (.cons rxu .nil),by
        have q:=sb.extBut _ _ hTe a3
        exact⟨_,q,rfl,_,rfl,rfl⟩⟩
    refine⟨.ref s.heap.objs.size,_,I1,rfl,⟨s.heap.objs.size,x,rfl,I.hok.fresh (Zm _),rfl,fun xs' q1 => ?_⟩,?_,fun b hb => ?_⟩
    . rw[I.list_inj q1 qa]
      exact hx
    . refine⟨⟨u,?_⟩,a2.extBut sb.extBut (Ne.symm hne)⟩
      have z:((i+1:Nat):Int)=(i:Int)+1:=by omega
      rw[z];exact b1
    . have hb':=(hf b hb).1
      rw[zp ?_]
      . exact hb'
      . simp only[ZK,Zx,or_false]at hb
        rcases hb with rfl | rfl
        . exact Ne.symm hTe
        . exact hit1
  done:=by
    intro X hP hw hK hc i pins s σ H E I hf st hg;subst hP hw hK;obtain⟨xs,qa,hend⟩:=hg;obtain⟨us,ru,pu,zu⟩:=I.list qa;obtain⟨⟨old,he⟩,h1⟩:=id st;have l1':=ru.length;obtain⟨f0,f1,f2,f3,f4,f5⟩:=hf it (by simp);exact wpAny_pyNext_enum_end (I.ok.hd hc) he h1 pu.isList (by simp;omega) fun h' eb=>⟨rfl,I.turned (t':=s.toks) (fun b o hb q=>eb b o hb q) f0 f1 f3 f4 f5⟩
  self:=fun _ _ _ _ _ st h=>by
    obtain⟨⟨old,he⟩,_⟩:=st;exact wpAny_pyIter_enum he h
def iEnum(K:Fg)(ta:TA):TI:=fun σ H R=>ta σ H fun vs H1=>∃a,vs=[.ref a]/\(∃xs,SqL K H1 a xs)/\R (Ite K a) H1
theorem e_enum{K:Fg}{ta:TA}{σ:St}{H:Hp}{R:It->Hp->Prop}:iEnum K ta σ H R=ta σ H fun vs H1=>∃a,vs=[.ref a]/\(∃xs,SqL K H1 a xs)/\R (Ite K a) H1:=rfl
theorem j7 {X:Cx} {a:Expr} {ta:TA} {p pos tpos:Pos} {elts:List Expr} {x1:Nat} (hg:Gl X "enumerate") (hm:X.mg "enumerate" = none) (ha:PA X [a] ta) (hs:starEach [a] X.env=[(false,eval a X.env)]:=by rfl) :
    PI X (.Tuple elts x1 tpos) (.Call (.Name "enumerate" p) [a] [] pos) (iEnum X.K ta):=by
  intro pins s σ H R I h;refine Call_ (vi I hg hm za2 (PyProof.Rows.callWith_type1 (thn (ha pos pins s σ H _ I h) fun us s1 ⟨vs,H1,I1,r1,q1⟩ => ?_) hs rfl));obtain⟨a,e,⟨xs,qa⟩,q⟩:=q1;subst e;obtain⟨u,rfl,ru⟩:=Vals.one r1;cases ru;obtain⟨its,_,pa,_⟩:=I1.list qa;refine call_enumerate_list pa.isList fun h' z1 z2 z3 kp => ?_
  refine wpAny_pyIter_enum (s:={ s1 with heap:=h' }) z1 ?_;have I2:Inv X pins σ H1 { s1 with heap:=h' }:=I1.kept (t':=s1.toks) kp;refine⟨s1.heap.objs.size+1,[s1.heap.objs.size+1,s1.heap.objs.size],_,_,H1,rfl,I2,zfk _ _ a (by show(_:Nat)≠_;omega),⟨⟨_,z1⟩,z2⟩,fun c hc => ?_,q⟩
  have hle:s1.heap.objs.size<=c:=by
    simp only[ZK,Zx,or_false]at hc
    rcases hc with h | h <;> (rw[h];omega)
  exact I1.fpOk hle (I1.hok.fresh hle)
theorem zia{K:Fg}{a:Addr}{xs:List V}{g:TG}{tb:TS}{D:Ends}{σ:St}{H:Hp}(Pv:Nat->St->Hp->Prop)(h0:Pv 0 σ H)(hl:∀i σ H,i<=xs.length->Pv i σ H->SqL K H a xs)
    (hs:∀i x σ H T,xs[i]? = some x->H T=none->Pv i σ H->g (.ref T) σ (upd H T (.tup [.int i,x])) fun σ2 H2=>tb { D with nx:=Pv (i+1),ct:=Pv (i+1),bk:=D.nx } σ2 H2)
    (hd:∀σ H,Pv xs.length σ H->D.nx σ H):ForW (Ite K a) g tb D σ H:=by
  refine⟨fun i m σ H=>m=xs.length-i/\i<=xs.length/\Pv i σ H,⟨xs.length,by simp,ZE _,h0⟩,?_⟩
  rintro i m σ H ⟨rfl,hi,p⟩
  have q:=hl i σ H hi p
  by_cases hlt:i<xs.length
  . refine .inr ⟨⟨xs,xs[i],q,by simp[hlt]⟩,Pv (i+1),fun σ' H' p'=>⟨xs.length-(i+1),by omega,rfl,hlt,p'⟩,fun x H' y => ?_⟩
    obtain⟨T,x',rfl,hT,rfl,hy⟩:=y;exact hs i x' σ _ T (hy xs q) hT p
  . have e:i=xs.length:=by omega
    subst e;exact .inl ⟨⟨xs,q,Zm _⟩,hd σ H p⟩
section
variable{X:Cx}
end
section
variable{X:Cx}
end
end L2
namespace L2
open PySem PySem.Spec PyProof.Rows
section
variable{X:Cx}{pins:List (Addr×Obj)}{σ:St}{H:Hp}{k:Nat}{f:Addr}{fd:FuncData}{ps:List Str}{sp:Sp}
theorem je{s:Shared}{fp:List Addr}{x:V}{u:Value}{n:Int}{Q:Value->Shared->Prop}{E:Value->Shared->Prop}(F:FnOk X.prog X.w X.K X.mg X.base CX0 k f fd ps sp)(hb:Binds X.K fd ps [])(hr:Room k X.A.in1)
    (I:Inv X pins σ H s) (hf:∀b∈fp,FpOk X pins H b) (ho:∀b∈fp,∃o,s.heap.get? b=some o/\∀v,o.data≠.cell v) (rx:RelV x u)
    (h:sp [x] H (fun v H'=>v=.int n/\H'=H) E0)
    (q:∀t s',Inv X pins σ H s'->(∀b∈fp,∀o,s.heap.get? b=some o->s'.heap.get? b=some o)->Q (.int n t) s') :
    wpAny (model X.prog X.w) X.A.in1 (call (.ref f) [u]) Q E s:=by
  have I1:=I.pinned hf ho;have hl:[u].length=ps.length:=F.len [x] _ _ _ h;refine wpAny_call (codeAny_mono (F.run X.A.in1 X.stack s H ⟨[u],[]⟩ [u] [x] _ E0 hr I1.env0.in1 (hb s [u] I.kIn hl) (.cons rx .nil) h) fun r s' hq => ?_)
  cases r with
  | error e=>exact hq.elim
  | ok fl =>
    cases fl with
    | ret u' =>
      obtain⟨v,H',I2,rv,e1,e2⟩:=I1.after hq;subst e1 e2;obtain⟨t,rfl⟩:=rv;refine q t s' I2.unpinned fun b hb o e => ?_
      exact(I2.pin (b,o) (Zu _ (Zu _ (sd hb e)))).1
    | next=>exact False.elim hq
    | brk=>exact False.elim hq
    | cont=>exact False.elim hq
theorem Inv.turned1{s:Shared}{h':Heap}{it:Addr}{t':Nat}(I:Inv X pins σ H s)(hf:FpOk X pins H it)(k:∀b o,b≠it->s.heap.get? b=some o->h'.get? b=some o):Inv X pins σ H { s with heap:=h',toks:=t' }:=by
  obtain⟨f0,f1,f2,f3,f4,f5⟩:=hf;exact I.turned k f0 f1 f3 f4 f5
theorem zgv(kf:Nat->Int){l I0 S:Addr}{xs:List V}{R:Result->Shared->Prop}(hc:X.calm=true)(F:FnOk X.prog X.w X.K X.mg X.base CX0 k f fd ps sp)(hb:Binds X.K fd ps [])(hr:Room k X.A.in1)
    (hlI:l≠I0) (hlS:l≠S) (hSI:S≠I0) (hl:SqL X.K H l xs) (fS:FpOk X pins H S) (fI:FpOk X pins H I0)
    (turn:∀i x,xs[i]? = some x->sp [x] H (fun v H'=>v=.int (kf i)/\H'=H) E0)
    (hR:∀i x u s',xs[i]? = some x->RelV x u->(∀j,j<xs.length->kf i<=kf j/\(j<i->kf i<kf j))->Inv X pins σ H s'->R (.ok (.ret u)) s') :
    ∀(r j i:Nat) (s:Shared) (x:V) (vb:Value) (tb:Tok) (c:Nat),xs.length-(j+1)=r->j+1<=xs.length->Inv X pins σ H s->s.heap.get? S=some (seqObj "list" #[vb,.int (kf i) tb] c) ->
      s.heap.IsListIter I0 l (j+1)->xs[i]? = some x->RelV x vb->i<=j->(∀j',j'<=j->kf i<=kf j'/\(j'<i->kf i<kf j')) ->
      codeAny (model X.prog X.w) X.A (.builtin "min.loop" ⟨[.ref I0,.ref f,.ref S],[]⟩) R s:=by
  have hname:(toString "min" ++ toString ".loop" : String) = "min.loop" := by decide
  intro r
  induction r with
  | zero =>
    intro j i s x vb tb c hr' hj I hS hit hx rx hij hbest;have hin:j+1=xs.length:=by omega
    obtain⟨its,rv,pl,hz⟩:=I.list hl;have hlen:=rv.length;have W:=Walks.list (prog:=X.prog) (w:=X.w) (A:=X.A.in1) (I.ok.hd hc) I0 l hlI its.toArray;refine codeAny_builtin PySem.F.entry_min_loop ?_;rw[Around.under_plainId PySem.F.plain_min_loop _]
    show wpAny _ X.A.in1 (seqItems? (.ref S) >>= _) _ _ _
    refine wpAny_bind (wpAny_seqItems hS rfl ?_)
    show wpAny _ X.A.in1 (tryCatch (pyNext (.ref I0)) _ >>= _) _ _ _
    refine wpAny_bind (wpAny_tryCatch (W.done _ _ _ ⟨by rw[Zr,<-hlen,<-hin];exact hit,pl.isList⟩ fun h' tk' hk' => ?_));have I1:Inv X pins σ H { s with heap:=h',toks:=tk' }:=I.turned1 fI fun b o hb e=>hk' b o (by simpa using hb) e
    have hS':=hk' S _ (by simpa using hSI) hS;have s1:=Heap.SameBut.update h' S (Obj.mapSeq fun _=>(#[]:Array Value))
    show wpAny _ X.A.in1 (updateSeq S (fun _ => #[]) >>= _) _ _ _
    refine wpAny_bind ?_;refine wpAny_updateSeq hS' rfl (wpAny_bind (wpAny_letGo (wpAny_pure ?_)));exact hR i x vb _ hx rx (fun j' hj'=>hbest j' (by omega)) (I1.turned1 (t':=tk') fS fun b o hb e=>(s1.2 b hb).trans e)
  | succ r ih =>
    intro j i s x vb tb c hr' hj I hS hit hx rx hij hbest;have hlt:j+1<xs.length:=by omega
    obtain⟨its,rv,pl,hz⟩:=I.list hl;have hlen:=rv.length;have W:=Walks.list (prog:=X.prog) (w:=X.w) (A:=X.A.in1) (I.ok.hd hc) I0 l hlI its.toArray;refine codeAny_builtin PySem.F.entry_min_loop ?_;rw[Around.under_plainId PySem.F.plain_min_loop _]
    show wpAny _ X.A.in1 (seqItems? (.ref S) >>= _) _ _ _
    refine wpAny_bind (wpAny_seqItems hS rfl ?_)
    show wpAny _ X.A.in1 (tryCatch (pyNext (.ref I0)) _ >>= _) _ _ _
    refine wpAny_bind (wpAny_tryCatch (W.item (j+1) _ _ _ (by rw[Zr,<-hlen];exact hlt) ⟨hit,pl.isList⟩ fun v h' tk' hP hst' hk' => ?_));have hv:its[j+1]? = some v:=by simpa using hP
    have ey:xs[j+1]? = some xs[j+1]:=by simp[hlt]
    obtain⟨v',hv',ry⟩:=rv.get ey;rw[hv]at hv';cases hv';have I1:Inv X pins σ H { s with heap:=h',toks:=tk' }:=I.turned1 fI fun b o hb e=>hk' b o (by simpa using hb) e
    have hS':=hk' S _ (by simpa using hSI) hS;obtain⟨oI',hoI',hoc,hod⟩:=id hst'.1
    show wpAny _ X.A.in1 (tryCatch (holding [v] (call (.ref f) [v])) _ >>= _) _ _ _
    refine wpAny_bind (wpAny_tryCatch (wpAny_holding (je (fp:=[S,I0]) F hb hr I1 (fun b hb => ?_) (fun b hb => ?_) ry (turn (j+1) _ ey) fun t2 s2 I2 kp => ?_)))
    . simp only[ZK,Zx,or_false]at hb
      rcases hb with rfl | rfl
      . exact fS
      . exact fI
    . simp only[ZK,Zx,or_false]at hb
      rcases hb with rfl | rfl
      . exact⟨_,hS',fun v q=>by cases q⟩
      . exact⟨oI',hoI',fun v q=>by rw[hod]at q;cases q⟩
    have nS2:=kp S (by simp) _ hS';have nI2:=kp I0 (by simp) _ hoI';have hit2:s2.heap.IsListIter I0 l (j+1+1):=⟨oI',nI2,hoc,hod⟩
    show wpAny _ X.A.in1 (tryCatch (holding [v,.int (kf (j+1)) t2] (richCompare .Lt (.int (kf (j+1)) t2) (.int (kf i) tb) >>= _)) _ >>= _) _ _ _
    refine wpAny_bind (wpAny_tryCatch (wpAny_holding (wpAny_bind (CmpOf.ints_lt (prog:=X.prog) (w:=X.w) (A:=X.A.in1) (P:=fun i v=>∃t,v=.int (kf i) t) kf (fun i v h=>h) (j+1) i _ _ _ _ _ ⟨t2,rfl⟩ ⟨tb,rfl⟩ ?_))));refine wpAny_bind (wpAny_holding (wpAny_truthy_bool ?_));refine wpAny_bind (wpAny_letGo (wpAny_pure ?_))
    by_cases hb':kf (j+1)<kf i
    . have s1:=Heap.SameBut.update s2.heap S (Obj.mapSeq fun _ => #[v,.int (kf (j+1)) t2])
      obtain⟨c2,hc2⟩:∃c2,(s2.heap.update S (Obj.mapSeq fun _ => #[v,.int (kf (j+1)) t2])).get? S=some (seqObj "list" #[v,.int (kf (j+1)) t2] c2):=⟨_,get?_update_seq nS2 fun _ => #[v,.int (kf (j+1)) t2]⟩;simp only[hb',decide_true,if_true];refine wpAny_bind ?_;refine wpAny_updateSeq nS2 rfl (wpAny_bind (wpAny_letGo ?_));rw[hname];refine wpAny_pure ⟨plainId_quiet PySem.F.plain_min_loop _,ih (j+1) (j+1) _ _ v t2 c2 (by omega) hlt (I2.turned1 (t':=s2.toks) fS fun b o hb e=>(s1.2 b hb).trans e) hc2 ⟨oI',(s1.2 I0 hSI.symm).trans nI2,hoc,hod⟩ ey ry (Zm _) fun j' hj' => ?_⟩
      by_cases e:j'=j+1
      . subst e
        exact⟨by omega,fun _=>by omega⟩
      . have hb1:=hbest j' (by omega)
        have hb2:=hb1.1;exact⟨by omega,fun _=>by omega⟩
    . simp only[hb',decide_false,Bool.false_eq_true,if_false]
      refine wpAny_bind (wpAny_letGo ?_);rw[hname];refine wpAny_pure ⟨plainId_quiet PySem.F.plain_min_loop _,ih (j+1) i s2 x vb tb c (by omega) hlt I2 nS2 hit2 hx rx (by omega) fun j' hj' => ?_⟩
      by_cases e:j'=j+1
      . subst e
        exact⟨by omega,fun _=>by omega⟩
      . exact hbest j' (by omega)
theorem zh4(kf:Nat->Int){s:Shared}{l:Addr}{xs:List V}{Q:VK}{E:Value->Shared->Prop}(hc:X.calm=true)(F:FnOk X.prog X.w X.K X.mg X.base CX0 k f fd ps sp)(hb:Binds X.K fd ps [])(hr:Room k X.A.in1)
    (I:Inv X pins σ H s) (hl:SqL X.K H l xs) (hne:0<xs.length)
    (turn:∀i x,xs[i]? = some x->sp [x] H (fun v H'=>v=.int (kf i)/\H'=H) E0)
    (hQ:∀i x,xs[i]? = some x->(∀j,j<xs.length->kf i<=kf j/\(j<i->kf i<kf j))->Q x H) :
    wpAny (model X.prog X.w) X.A (call (.builtin "min") [.ref l] [(Str.ofString "key", .ref f)]) (EP X pins σ Q) E s:=by
  have hname:(toString "min" ++ toString ".loop" : String) = "min.loop" := by decide
  obtain⟨its,rv,pl,hz⟩:=I.list hl;have hlen:=rv.length;have hls:=pl.isList;obtain⟨ol,hol,_⟩:=id hls;have hll:l<s.heap.objs.size:=Heap.lt_size hol;refine kmk_tree PySem.F.kind_min PySem.F.plain_min PySem.F.entry_min (kmk_min_key _ _) ?_
  show wpAny _ X.A.in1 (Builtin.Builtins.bindParams "min" ["key", "default"] 0 ⟨[],[(Str.ofString "key", .ref f)]⟩ >>= _) _ _ s
  refine wpAny_bind (wpAny_of_eq (show Builtin.Builtins.bindParams "min" ["key", "default"] 0 ⟨[],[(Str.ofString "key", .ref f)]⟩=pure [some (.ref f),none] from rfl) ?_);refine wpAny_bind (wpAny_pure ?_);refine wpAny_bind (wpAny_pyIter_list hls ?_);refine wpAny_bind (wpAny_newList ?_ (ZE _));rw[hname];generalize hP:s.heap.push { cls:=.type "list_iterator", data:=.fields #[.ref l,.int 0 0] }=HP;have hS:HP.objs.size=s.heap.objs.size+1:=by rw[<-hP];exact size_push' ..
  have hlI:l≠s.heap.objs.size:=Zs hll;have hSI:HP.objs.size≠s.heap.objs.size:=by rw[hS];exact Ye (Yj _)
  have hlS:l≠HP.objs.size:=by rw[hS];exact Zs (Yp hll)
  refine wpAny_pure ⟨plainId_quiet PySem.F.plain_min_loop _,?_⟩;have old:∀b o,s.heap.get? b=some o->(HP.push (seqObj "list" #[] 0)).get? b=some o:=fun b o e=>Heap.get?_push_of_some _ (by rw[<-hP];exact Heap.get?_push_of_some _ e)
  have I0:Inv X pins σ H { s with heap:=HP.push (seqObj "list" #[] 0),toks:=s.toks }:=I.kept old
  have gI:(HP.push (seqObj "list" #[] 0)).get? s.heap.objs.size=some { cls:=.type "list_iterator", data:=.fields #[.ref l,.int 0 0] } :=
    Heap.get?_push_of_some _ (by rw[<-hP];exact Heap.get?_push_size _ rfl)
  have gS:(HP.push (seqObj "list" #[] 0)).get? HP.objs.size=some (seqObj "list" #[] 0):=Heap.get?_push_size _ rfl;have fI:FpOk X pins H s.heap.objs.size:=I.fpOk (Zm _) (I.hok.fresh (Zm _));have fS:FpOk X pins H HP.objs.size:=I.fpOk (by rw[hS];exact Yt _) (I.hok.fresh (by rw[hS];exact Yt _));have W:=Walks.list (prog:=X.prog) (w:=X.w) (A:=X.A.in1) (I.ok.hd hc) s.heap.objs.size l hlI its.toArray;refine codeAny_builtin PySem.F.entry_min_loop ?_;rw[Around.under_plainId PySem.F.plain_min_loop _]
  show wpAny _ X.A.in1 (seqItems? (.ref _) >>= _) _ _ _
  refine wpAny_bind (wpAny_seqItems gS rfl ?_)
  show wpAny _ X.A.in1 (tryCatch (pyNext (.ref s.heap.objs.size)) _ >>= _) _ _ _
  have hlist:(HP.push (seqObj "list" #[] 0)).IsList l its.toArray:=by
    obtain⟨o,e,r⟩:=hls;exact⟨o,old l o e,r⟩
  refine wpAny_bind (wpAny_tryCatch (W.item 0 _ _ _ (by rw[Zr,<-hlen];exact hne) ⟨⟨_,gI,rfl,rfl⟩,hlist⟩ fun v h' tk' hP' hst' hk' => ?_));have hv:its[0]? = some v:=by simpa using hP'
  have ey:xs[0]? = some xs[0]:=by simp[hne]
  obtain⟨v',hv',ry⟩:=rv.get ey;rw[hv]at hv';cases hv';have I1:Inv X pins σ H { s with heap:=h',toks:=tk' }:=I0.turned1 fI fun b o hb e=>hk' b o (by simpa using hb) e
  have hS':=hk' HP.objs.size _ (by simpa using hSI) gS;obtain⟨oI',hoI',hoc,hod⟩:=id hst'.1
  show wpAny _ X.A.in1 (tryCatch (holding [v] (call (.ref f) [v])) _ >>= _) _ _ _
  refine wpAny_bind (wpAny_tryCatch (wpAny_holding (je (fp:=[HP.objs.size,s.heap.objs.size]) F hb hr I1 (fun b hb => ?_) (fun b hb => ?_) ry (turn 0 _ ey) fun t2 s2 I2 kp => ?_)))
  . simp only[ZK,Zx,or_false]at hb
    rcases hb with rfl | rfl
    . exact fS
    . exact fI
  . simp only[ZK,Zx,or_false]at hb
    rcases hb with rfl | rfl
    . exact⟨_,hS',fun v q=>by cases q⟩
    . exact⟨oI',hoI',fun v q=>by rw[hod]at q;cases q⟩
  have nS2:=kp HP.objs.size (by simp) _ hS';have nI2:=kp s.heap.objs.size (by simp) _ hoI';have s1:=Heap.SameBut.update s2.heap HP.objs.size (Obj.mapSeq fun _ => #[v,.int (kf 0) t2]);obtain⟨c2,hc2⟩:∃c2,(s2.heap.update HP.objs.size (Obj.mapSeq fun _ => #[v,.int (kf 0) t2])).get? HP.objs.size=some (seqObj "list" #[v,.int (kf 0) t2] c2):=⟨_,get?_update_seq nS2 fun _ => #[v,.int (kf 0) t2]⟩
  show wpAny _ X.A.in1 (updateSeq HP.objs.size (fun _ => #[v,.int (kf 0) t2]) >>= _) _ _ _
  refine wpAny_bind ?_;refine wpAny_updateSeq nS2 rfl ?_;rw[hname];refine wpAny_pure ⟨plainId_quiet PySem.F.plain_min_loop _,zgv kf hc F hb hr hlI hlS hSI hl fS fI turn (fun i x u s' h1 h2 h3 h4=>⟨x,H,h4,h2,hQ i x h1 h3⟩) _ 0 0 _ _ v t2 c2 rfl hne (I2.turned1 (t':=s2.toks) fS fun b o hb e=>(s1.2 b hb).trans e) hc2 ⟨oI',(s1.2 _ hSI.symm).trans nI2,hoc,hod⟩ ey ry (Zm _) fun j' hj' => ?_⟩;have e:j'=0:=by omega
  subst e;exact⟨by omega,fun _=>by omega⟩
def tMinK(K:Fg)(sp:Sp)(ta:TA):TE:=fun σ H Q=>ta σ H fun vs H1=>∃(l:Addr) (xs:List V) (kf:Nat->Int),vs=[.ref l]/\SqL K H1 l xs/\0<xs.length /\
  (∀i x,xs[i]? = some x->sp [x] H1 (fun v H'=>v=.int (kf i)/\H'=H1) E0)/\∀i x,xs[i]? = some x->(∀j,j<xs.length->kf i<=kf j/\(j<i->kf i<kf j))->Q x H1
theorem e_minK{K:Fg}{ta:TA}{Q:VK}:tMinK K sp ta σ H Q=ta σ H fun vs H1=>∃(l:Addr) (xs:List V) (kf:Nat->Int),vs=[.ref l]/\SqL K H1 l xs/\0<xs.length /\
  (∀i x,xs[i]? = some x->sp [x] H1 (fun v H'=>v=.int (kf i)/\H'=H1) E0)/\∀i x,xs[i]? = some x->(∀j,j<xs.length->kf i<=kf j/\(j<i->kf i<kf j))->Q x H1:=rfl
theorem zcs {y:Str} {e:Expr} {t:TA} {p p2 pos kpos:Pos} (F:FnAt X.prog X.w X.K X.mg X.base y k ps sp) (hr:Room (k+1) X.A) (hc:X.calm=true) (hgm:Gl X "min") (hm:X.mg "min" = none) (hg:Gl X y) (ha:PA X [e] t)
    (hdb:(y==("__debug__" : Str))=false:=by decide)
    (he:backTo pos (starEach [e] X.env)=(false,eval e X.env)::backTo pos (starEach [] X.env):=by rfl) (hpl:(backTo pos (starEach [e] X.env)).any (·.1)=false:=by rfl) :
    PE X (.Call (.Name "min" p) [e] [⟨some (Str.ofString "key"),.Name y p2,kpos⟩] pos) (tMinK X.K sp t):=by
  intro pins s σ H Q I h;obtain⟨f,fd,hmy,hk,hb,G⟩:=F.ex;refine wpAny_Call_Name_kw (vi I hgm hm zbl ?_);refine PyProof.Rows.callWith_kw (thn (ha pos pins s σ H _ I h) fun us s1 ⟨vs,H1,I1,r1,q1⟩ => ?_) he hpl rfl rfl;obtain⟨l,xs,kf,ev,hl,hne,turn,q⟩:=q1;subst ev;obtain⟨u,rfl,ru⟩:=Vals.one r1;cases ru;refine thn ((zdp (nm:=some (Str.ofString "key")) (kpos:=kpos) (cn (v:=.ref f) hg hmy rfl hdb) zfm) pos pins s1 σ H1 (fun zs H2=>zs=[.ref f]/\H2=H1) I1 ⟨rfl,rfl⟩) fun ws s2 ⟨zs,H2,I2,rz,ez,eh⟩ => ?_
  subst ez eh;obtain⟨w1,rfl,rw1⟩:=Vals.one rz;cases rw1;exact zh4 kf hc G hb hr.in1 I2 hl hne turn q
end
end L2
namespace L2
open PySem PySem.Spec PyProof.Rows
def CX1(P:Program)(w:World):CXT:=fun outer H s E e s'=>∃(ea C:Addr) (a0:Value) (B:Heap) (H':Hp),e=.ref ea/\s'.os=s.os/\AllBare s'.gens/\Un (frs outer) [] H H' s.heap s'.heap/\HOk P w H' s'.heap /\
  Heap.FlyingW B outer ea (.ref C) a0 s'.heap/\H' ea=none/\(∀b o,H' b=some o->∃ob,B.get? b=some ob)/\(∀b o,s.heap.get? b=some o->b∉frs outer->∃ob,B.get? b=some ob/\(H b=none->ob=o))/\E (.ref C) none H'
theorem pass1{P:Program}{w:World}{X:Cx}:ik (CX1 P w) X E0:=fun _ _ _ _ _ _ _ h=>by
  obtain⟨_,_,_,_,_,_,_,_,_,_,_,_,_,_,z⟩:=h;exact z.elim
theorem UpToSlots.get{h h':Heap}(u:h.UpToSlots h'){b:Addr}{o:Obj}(e:h.get? b=some o)(n:∀vs,o.data≠.fields vs):∃sl,h'.get? b=some { o with slots:=sl }:=u b o e n
theorem HOk.flown{P:Program}{w:World}{H:Hp}{h h' B:Heap}(x:HOk P w H h)(bh:B.StaysIn h)(bh':B.StaysIn h')(dom:∀b o,H b=some o->∃ob,B.get? b=some ob):HOk P w H h':=fun a o e =>
  (x a o e).stay (fun b u hb q=>by
    have hB:∃ob,B.get? b=some ob:=by
      rcases hb with rfl | hb
      . exact dom _ _ e
      . exact dom _ _ hb
    obtain⟨ob,hob⟩:=hB;have:=bh b ob hob;rw[q]at this;cases this
    exact bh' b u hob) (fun _ q=>q) fun _ _ q=>q
theorem gh{P:Program}{w:World}{H:Hp}{h:Heap}{a:Addr}{o:HO}(x:ObjOk P w H h a o):∃ob,h.get? a=some ob:=by
  cases o with
  | lst xs=>obtain⟨_,_,_,_,e⟩:=x;exact⟨_,e⟩
  | tup xs=>obtain⟨_,_,_,o,e,_⟩:=x;exact⟨_,e⟩
  | dK kvs=>obtain⟨_,_,_,_,o,_,_,e,_⟩:=x;exact⟨_,e⟩
  | dT kvs=>obtain⟨_,_,_,_,o,_,_,e,_⟩:=x;exact⟨_,e⟩
  | set S n=>obtain⟨o,_,_,_,e,_⟩:=x;exact⟨_,e⟩
  | ins C dx fs=>obtain⟨_,_,_,e,_⟩:=x;exact⟨_,e⟩
  | own y=>exact x
  | xd fs=>obtain⟨_,⟨_,_,_,e,_⟩,_⟩:=x;exact⟨_,e⟩
  | rng lo hi=>obtain⟨_,_,_,e⟩:=x;exact⟨_,e⟩
  | frz ob u=>obtain⟨e,_⟩:=x;exact⟨_,e⟩
  | tbl ps=>exact⟨_,(show h.get? a=some _ from x)⟩
  | met f y=>exact⟨_,(show h.get? a=some _ from x)⟩
  | ext φ=>obtain⟨_,e,_⟩:=x;exact e
section
variable{X:Cx}{pins:List (Addr×Obj)}{σ:St}{H:Hp}{s:Shared}
theorem zbw{fs:List Addr}{H0 H1:Hp}{h0 h1 h2 B:Heap}(u:Un fs [] H0 H1 h0 h1)(dom2:∀b o,h0.get? b=some o->b∉fs->∃ob,B.get? b=some ob/\(H0 b=none->ob=o))
    (bh':B.StaysIn h2) (sl:h1.UpToSlots h2) (hfr:∀b∈fs,∀o,h1.get? b=some o->∀vs,o.data≠.fields vs):Un fs [] H0 H1 h0 h2 where
  keep:=fun b o e n hb _=>by
    obtain⟨ob,e1,e2⟩:=dom2 b o e hb;rw[e2 n]at e1;exact bh' b o e1
  slot:=fun b o e n hb hx=>by
    obtain⟨s1,e1⟩:=u.slot b o e n hb hx;obtain⟨s2,e2⟩:=sl b _ e1 (hfr b hb _ e1);exact⟨s2,e2⟩
  free:=u.free
  there:=fun b o e hx=>by
    by_cases hb:b∈fs
    . obtain⟨o1,e1⟩:=u.there b o e hx
      obtain⟨s2,e2⟩:=sl b _ e1 (hfr b hb _ e1);exact⟨_,e2⟩
    . obtain⟨ob,e1,_⟩:=dom2 b o e hb
      exact⟨ob,bh' b ob e1⟩
  tups:=u.tups
  frzs:=u.frzs
  tbls:=u.tbls
theorem zbf{P:Program}{w:World}{K:Fg}{mg:Str->Option Value}{base:Heap}{N:List Str}{qual:Str}{scope:Scope}{f:Addr}{cd:Value}{A:Around}{outer:List Env}{s0:Shared}{H0:Hp}{E:XK}{h':Heap}{e C:Addr}{args:List Value}
    (hX:X=cxOf (CX1 P w) P w K mg base N qual scope f cd A outer s0 H0 E) (I:Inv X pins σ H s) (hx:Heap.MadeExcOf s.heap h' e (.ref C) args) (hE:E (.ref C) none H) (tk:Nat):X.xe (.ref e) { s with heap:=h',toks:=tk }:=by
  subst hX
  show wpAny _ _ (leaving _ (.ref e)) _ _ _
  have hst:s.heap.FunFrames base (envOfC qual scope s0.heap.objs.size f cd::outer):=I.stack;have hin:∀env∈(envOfC qual scope s0.heap.objs.size f cd::outer),∀b,env.frame=some b->b∈(envOfC qual scope s0.heap.objs.size f cd::outer).filterMap (·.frame):=fun env he b hb=>ZY.mpr ⟨env,he,hb⟩
  have getB:∀b o,s.heap.get? b=some o->b∉(envOfC qual scope s0.heap.objs.size f cd::outer).filterMap (·.frame)->(PySem.W.hideAll s.heap ((envOfC qual scope s0.heap.objs.size f cd::outer).filterMap (·.frame))).get? b=some o:=fun b o q n=>PySem.W.hideAll_get _ q n
  refine wpAny_leaves_madeW (s:={ s with heap:=h',toks:=tk }) (h:=s.heap) I.ok.frames rfl (fun b o q=>PySem.W.of_hideAll _ q) (PySem.W.funFrames_hide hst hin) hx fun h'' t x1 x2 x3 x4 => ?_
  have dom:∀b o,H b=some o->∃ob,(PySem.W.hideAll s.heap ((envOfC qual scope s0.heap.objs.size f cd::outer).filterMap (·.frame))).get? b=some ob:=fun b o q=>by
    have hlt:=I.hok.lt q
    have hnf:b∉(envOfC qual scope s0.heap.objs.size f cd::outer).filterMap (·.frame):=fun z=>by
      have:=I.stkFree b z;rw[q]at this;cases this
    obtain⟨ob,hob⟩:=gh (I.hok b o q);exact⟨ob,getB b ob hob hnf⟩
  have un:Un (frs outer) [] H0 H s0.heap s.heap:=I.base
  have dom2:∀b o,s0.heap.get? b=some o->b∉frs outer->∃ob,(PySem.W.hideAll s.heap ((envOfC qual scope s0.heap.objs.size f cd::outer).filterMap (·.frame))).get? b=some ob/\(H0 b=none->ob=o):=fun b o q n=>by
    have hnf:b∉(envOfC qual scope s0.heap.objs.size f cd::outer).filterMap (·.frame):=fun z=>by
      rcases ZK.mp (I.stkSub b z) with y | y
      . have h1:s0.heap.objs.size<=b:=by rw[y];exact I.ok.above
        exact absurd (Zh (Heap.lt_size q) h1) (ZJ _)
      . exact n y
    obtain⟨o1,e1⟩:=un.there b o q (by simp);refine⟨o1,getB b o1 e1 hnf,fun z => ?_⟩;have:=un.keep b o q z n (by simp);rw[e1]at this;exact Option.some.inj this
  have hfr:∀b∈frs outer,∀o,s.heap.get? b=some o->∀vs,o.data≠.fields vs:=fun b hb o q=>by
    obtain⟨_,o',e',n'⟩:=hst.mem (b:=b) (by
      obtain⟨env,he,hf⟩:=ZY.mp hb
      exact ZY.mpr ⟨env,Zv _ he,hf⟩)
    rw[q]at e';cases e';exact n'
  have sl:s.heap.UpToSlots h'':=(Heap.UpToSlots.of_keeps hx.keeps).trans x4;refine⟨e,C,_,_,H,rfl,I.os,I.bare,zbw un dom2 x1.1 sl hfr,HOk.flown I.hok (fun b o q=>PySem.W.of_hideAll _ q) x1.1 dom,x1,?_,dom,dom2,hE⟩
  cases q:H e with
  | none=>rfl
  | some o =>
    obtain⟨ob,hob⟩:=gh (I.hok e o q);rw[hx.new]at hob;cases hob
theorem passX{P:Program}{w:World}{K:Fg}{mg:Str->Option Value}{base:Heap}{N:List Str}{qual:Str}{scope:Scope}{f:Addr}{cd:Value}{A:Around}{outer:List Env}{s0:Shared}{H0:Hp}{E E1:XK}
    (hX:X=cxOf (CX1 P w) P w K mg base N qual scope f cd A outer s0 H0 E) (hE:∀c H',E1 c none H'->E c none H'):ik (CX1 P w) X E1:=by
  subst hX;intro pins σ H s e s' I h;obtain⟨ea,C,a0,B,H',rfl,os,bare,un,hok,fl,hea,dom,dom2,hE1⟩:=h
  show wpAny _ _ (leaving _ (.ref ea)) _ _ _
  have hst:s'.heap.FunFrames B (envOfC qual scope s0.heap.objs.size f cd::outer):=fl.2.2.1;have un0:Un (frs outer) [] H0 H s0.heap s.heap:=I.base
  have sub:∀b∈frs outer,b∈frs (envOfC qual scope s0.heap.objs.size f cd::outer):=fun b hb=>by
    obtain⟨env,he,hf⟩:=ZY.mp hb;exact ZY.mpr ⟨env,Zv _ he,hf⟩
  have notL:∀b o,s0.heap.get? b=some o->b∉frs outer->b∉frs (envOfC qual scope s0.heap.objs.size f cd::outer):=fun b o q n z=>by
    rcases ZK.mp (I.stkSub b z) with y | y
    . have h1:s0.heap.objs.size<=b:=by rw[y];exact I.ok.above
      exact absurd (Zh (Heap.lt_size q) h1) (ZJ _)
    . exact n y
  refine wpAny_leaves_onW I.ok.frames rfl fl fun h'' x1 x2 => ?_
  have ut:=(un0.mono sub (fun _ z=>z)).trans un;have un1:Un (frs outer) [] H0 H' s0.heap s'.heap:=⟨fun b o e n hb hx=>ut.keep b o e n (notL b o e hb) hx,fun b o e n hb hx=>ut.slot b o e n (sub b hb) hx,ut.free,ut.there,ut.tups,ut.frzs,ut.tbls⟩
  have dom2':∀b o,s0.heap.get? b=some o->b∉frs outer->∃ob,B.get? b=some ob/\(H0 b=none->ob=o):=fun b o q n=>by
    obtain⟨o1,e1⟩:=un0.there b o q (by simp);obtain⟨ob,k1,k2⟩:=dom2 b o1 e1 (notL b o q n);refine⟨ob,k1,fun z => ?_⟩;have e2:=un0.keep b o q z n (by simp);rw[e1]at e2;cases e2;exact k2 (un0.free b _ q z (by simp))
  have hfr:∀b∈frs outer,∀o,s'.heap.get? b=some o->∀vs,o.data≠.fields vs:=fun b hb o q=>by
    obtain⟨_,o',e',n'⟩:=hst.mem (b:=b) (sub b hb);rw[q]at e';cases e';exact n'
  exact⟨ea,C,a0,B,H',rfl,os.trans I.os,bare,zbw un1 dom2' x1.1 x2 hfr,HOk.flown hok fl.1 x1.1 dom,x1,hea,dom,dom2',hE _ _ hE1⟩
def ExcO(ea C:Addr):HO:=.ext fun h=>∃o,h.get? ea=some o/\o.cls=.ref C/\∃vs,o.data=.fields vs
abbrev Cx.suite(X:Cx)(e:Value):Cx:={ X with A:=X.A.mark (some e),calm:=false,xe:=fun _ _=>False }
theorem Inv.suite(I:Inv X pins σ H s)(e:Value):Inv (X.suite e) pins σ H s :=
  ⟨⟨I.ok.mod,I.ok.kind,I.ok.glob,I.ok.blt,I.ok.above,I.ok.inj,I.ok.has,I.ok.cab,(fun z=>by cases z),I.ok.frames,I.ok.stk,I.ok.exf,I.ok.bs,I.ok.bsz,I.ok.noex,I.ok.exfs,I.ok.funs,I.ok.frf⟩,I.os,I.bare,I.base,I.loc,I.cell,I.free,I.freeC,I.pin,I.hok,I.len⟩
end
abbrev VE:List Value:=[.type "ValueError", .type "Exception", .type "BaseException", .type "object"]
structure Err(K:Fg)(C:Addr):Prop where
  ok:PySem.W.excIn K C VE "ValueError.__new__" = true
theorem Err.obj{K:Fg}{C:Addr}{h:Heap}(c:Err K C)(X:K.In h):∃bm N nm q bs hdct sn sub ab col dd k0 k1 k2 k3 k5 mN,h.get? C=some (excClassObj nm q C N bs bm hdct sn sub ab col dd k0 k1 k2 k3 k5 "ValueError.__new__") /\
    h.Ns N mN/\mN "__init__" = none/\OwnTail h VE bm/\∀v b,PySem.W.mroIn K C v=some b->(Value.ref C::bm).contains v=b:=by
  have q:=c.ok;unfold PySem.W.excIn at q
  split at q
  case h_2=>cases q
  case h_1 dd cd sl ho =>
    split at q
    case h_2=>cases q
    case h_1 C' bm k0 k1 k2 k3 n k5 hm hs =>
      simp only[Bool.and_eq_true,beq_iff_eq,Bool.not_eq_true']at q
      have hmro:∀v b,PySem.W.mroIn K C v=some b->(Value.ref C'::bm).contains v=b:=fun v b e=>by
        unfold PySem.W.mroIn PySem.W.clsIn at e;rw[ho]at e;simp only[Option.bind_some,hm,List.isEmpty_cons,Bool.false_eq_true,if_false,Option.some.injEq]at e;exact e
      obtain⟨⟨⟨⟨⟨e1,e2⟩,hdel⟩,ht⟩,hok⟩,hni⟩:=q;subst e1;subst e2;obtain⟨nm,bs,mro,ns,qn,hd,sn,sub,ab,col,del⟩:=cd;have hm':mro=Value.ref C'::bm:=hm;have hdel':del=false:=hdel;subst hm';subst hdel'
      have hsl:sl = #[k0,k1,k2,k3,some (.builtin "ValueError.__new__"),k5]:=by
        cases sl with
        | mk l =>
          have hs':l=[k0,k1,k2,k3,some (.builtin "ValueError.__new__"),k5]:=hs;rw[hs']
      subst hsl;exact⟨bm,ns,nm,qn,bs,hd,sn,sub,ab,col,dd,k0,k1,k2,k3,k5,_,X _ _ ho,.of_isNs (PySem.W.isNs_of_in X hok),PySem.W.nsMap_none_of_in X hok hni,PySem.W.tail_of_in X ht,hmro⟩
section
variable{M:Model}{A:Around}{E:Value->Shared->Prop}
end
end L2
namespace L2
open PySem PySem.Spec PyProof.Rows
theorem PS.nox{X:Cx}{st:Stmt}{t:TS}(h:PS X.nox st t):PS X st t:=fun pins s σ H D I hw =>
  wpAny_mono (h pins s σ H D (I.wish _) hw) (fun _ _ z=>z.unwish) fun _ _ z=>z.elim
def tryXe(X:Cx)(pn:List (Addr×Obj))(J:St->Value->Hp->Prop):Value->Shared->Prop:=fun e s' =>
  ∃pins σ H s,Inv { X with pn:=pn,xe:=fun _ _=>False } pins σ H s/\CX1 X.prog X.w X.stack H s (fun c _ H'=>J σ c H') e s'
abbrev tryCx(X:Cx)(pn:List (Addr×Obj))(J:St->Value->Hp->Prop):Cx:={ X with pn:=pn,xe:=tryXe X pn J }
def Takes(X:Cx)(J:St->Value->Hp->Prop):Prop:=∀pins σ H s e s',Inv X pins σ H s->CX1 X.prog X.w X.stack H s (fun c _ H'=>J σ c H') e s'->X.xe e s'
theorem zet{X:Cx}{P:Program}{w:World}{K:Fg}{mg:Str->Option Value}{base:Heap}{N:List Str}{qual:Str}{scope:Scope}{f:Addr}{cd:Value}{A:Around}{outer:List Env}{s0:Shared}{H0:Hp}{E:XK}
    (hX:X=cxOf (CX1 P w) P w K mg base N qual scope f cd A outer s0 H0 E):Takes X (fun _ c H'=>E c none H'):=fun pins σ H s e s' I h=>by
  have q:=passX (X:=X) (E1:=fun c _ H'=>E c none H') hX (fun _ _ z=>z) pins σ H s e s' I;subst hX;exact q h
structure FnAtX(P:Program)(w:World)(K:Fg)(mg:Str->Option Value)(base:Heap)(name:Str)(k:Nat)(ps:List Str)(sp:Sp):Prop where
  ex:∃f fd,mg name=some (.ref f)/\PySem.W.keepIn K (.ref f)=true/\Binds K fd ps []/\FnOk P w K mg base (CX1 P w) k f fd ps sp
theorem FnAtX.of{P:Program}{w:World}{K:Fg}{mg:Str->Option Value}{base:Heap}{name:Str}{st:Stmt}{N ps:List Str}{k:Nat}{sp:Sp}(D:ze K mg name st ps)(S:zq N ps (zl st))(len:∀vs H Q E,sp vs H Q E->vs.length=ps.length)
    (hbody:∀(f:Addr) (cdv:Value) (A:Around) (outer:List Env) (s:Shared) (H:Hp) (vs:List V) (Q:VK) (E:XK),Room k (A.deeper (envOfC name (zl st) s.heap.objs.size f cdv))->sp vs H Q E ->
      ∃t,PSs (cxOf (CX1 P w) P w K mg base N name (zl st) f cdv A outer s H E) (yy st) t/\t { nx:=fun _ H'=>Q .non H',rt:=Q } (start N vs) H):FnAtX P w K mg base name (k+1) ps sp:=by
  obtain⟨f,fd,hm,F,hb⟩:=D.ex;refine⟨f,fd,hm,F.kp,hb,?_⟩;obtain⟨oc,od,kV,doc,pm,an,cdv,ct,osl,rfl,lk,hcd⟩:=F.ex;exact fn_of lk hcd S len (hbody f cdv)
section
variable{X:Cx}{x:Str}{k:Nat}{ps:List Str}{sp:Sp}{p pos:Pos}{e:Expr}{es:List Expr}{t:TA}
def zfg(sp:Sp)(J:St->Value->Hp->Prop)(t:TA):TE:=fun σ H Q=>t σ H fun vs H1=>sp vs H1 Q fun c _ H'=>J σ c H'
theorem zka{J:St->Value->Hp->Prop}{σ:St}{H:Hp}{Q:VK}:zfg sp J t σ H Q=t σ H fun vs H1=>sp vs H1 Q fun c _ H'=>J σ c H':=rfl
theorem ziy {J:St->Value->Hp->Prop} (F:FnAtX X.prog X.w X.K X.mg X.base x k ps sp) (hr:Room k X.A) (hx:Takes X J) (hg:Gl X x) (ha:PA X (e::es) t) (hdb:(x==("__debug__" : Str))=false:=by decide) (he:starEach (e::es) X.env=(false,eval e X.env)::starEach es X.env:=by rfl)
    (hpl:(backTo pos (starEach es X.env)).any (·.1)=false:=by rfl):PE X (.Call (.Name x p) (e::es) [] pos) (zfg sp J t):=by
  obtain⟨f,fd,hm,hk,hb,G⟩:=F.ex;intro pins s σ H Q I h;refine wpAny_Call_Name_kw (ir I hg hm ?_ hdb);refine PySem.W.callWith_K (h₀:=X.base) I.ok.mod.kin hk (thn (ha pos pins s σ H _ I h) fun us s1 ⟨vs,H1,I1,r,q⟩=>⟨I1.kIn,?_⟩) he hpl;have hl:(us++[]).length=ps.length:=by rw[Yg,<-r.length];exact G.len _ _ _ _ q
  refine wpAny_call (codeAny_mono (G.run X.A X.stack s1 H1 ⟨us,[]⟩ us vs Q _ hr I1.env0 (by have:=hb s1 us I1.kIn hl;rw[Yg]at this;exact this) r q) fun r' s' hq => ?_)
  cases r' with
  | error e=>exact hx pins σ H1 s1 e s' I1 hq
  | ok fl =>
    cases fl with
    | ret u=>exact I1.after hq
    | next=>exact False.elim hq
    | brk=>exact False.elim hq
    | cont=>exact False.elim hq
theorem fc (F:FnAtX X.prog X.w X.K X.mg X.base x k ps sp) (hr:Room k X.A) (hg:Gl X x) (ha:PA X (e::es) t) (hdb:(x==("__debug__" : Str))=false:=by decide) (he:starEach (e::es) X.env=(false,eval e X.env)::starEach es X.env:=by rfl)
    (hpl:(backTo pos (starEach es X.env)).any (·.1)=false:=by rfl):PE X (.Call (.Name x p) (e::es) [] pos) (aw sp [] E0 t):=by
  obtain⟨f,fd,hm,hk,hb,G⟩:=F.ex;exact zdu G hr hg hm hk hb .nil pass1 ha hdb he hpl
end
section
variable{X:Cx}{C:Addr}{x:Str}{np cpos pos:Pos}
def zf1(X:Cx)(C:Addr)(R:Hp->Prop):Prop:=∀pins σ H s h' e args tk,Inv X pins σ H s->Heap.MadeExcOf s.heap h' e (.ref C) args->R H->X.xe (.ref e) { s with heap:=h',toks:=tk }
theorem qo{P:Program}{w:World}{K:Fg}{mg:Str->Option Value}{base:Heap}{N:List Str}{qual:Str}{scope:Scope}{f:Addr}{cd:Value}{A:Around}{outer:List Env}{s0:Shared}{H0:Hp}{E:XK}
    (hX:X=cxOf (CX1 P w) P w K mg base N qual scope f cd A outer s0 H0 E):zf1 X C (fun H=>E (.ref C) none H):=fun pins σ H s h' e args tk I hx hE=>zbf hX I hx hE tk
def zhe(R:Hp->Prop)(ta:TA):TS:=fun _ σ H=>ta σ H fun vs H1=>vs.length<=sizeLine/\R H1
theorem zkb{R:Hp->Prop}{ta:TA}{D:Ends}{σ:St}{H:Hp}:zhe R ta D σ H=ta σ H fun vs H1=>vs.length<=sizeLine/\R H1:=rfl
theorem ky {e:Expr} {es:List Expr} {R:Hp->Prop} {ta:TA} (hc:X.calm=true) (c:Err X.K C) (hg:Gl X x) (hm:X.mg x=some (.ref C)) (hr:zf1 X C R) (ha:PA X (e::es) ta) (hdb:(x==("__debug__" : Str))=false:=by decide)
    (he:starEach (e::es) X.env=(false,eval e X.env)::starEach es X.env:=by rfl) (hpl:(backTo cpos (starEach es X.env)).any (·.1)=false:=by rfl) :
    PS X (.Raise (some (.Call (.Name x np) (e::es) [] cpos)) none pos) (zhe R ta):=by
  intro pins s σ H D I h;obtain⟨bm,N,nm,q,bs,hdct,sn,sub,ab,col,dd,k0,k1,k2,k3,k5,mN,hC,hN,hni,T,_⟩:=c.obj I.ok.mod.kin
  refine wpAny_Raise_call_subU (C:=C) (nm:=nm) (q:=q) (N:=N) (bs:=bs) (bm:=bm) (hdct:=hdct) (sn:=sn) (sub:=sub) (ab:=ab) (col:=col) (dd:=dd) (k0:=k0) (k1:=k1) (k2:=k2) (k3:=k3) (k5:=k5)
    PySem.F.excBase_ValueError (by decide +kernel) PySem.F.excBase_ValueError (mN:=mN) (T.hasType PySem.F.excBase_ValueError.hasBase) (I.ok.hd hc) (by rw[he];show(false||(backTo cpos (starEach es X.env)).any (·.1))=false;rw[hpl];rfl) hni (ir I hg hm ⟨rfl,?_⟩ hdb)
  have hrun:=ha cpos pins s σ H _ I h;rw[he]at hrun ⊢;refine Calls.evalArgs_plain (wpAny_mono hrun (fun us s1 h1 => ?_) fun _ _ z=>z);obtain⟨vs,H1,I1,r1,hz,q1⟩:=h1;exact⟨rfl,by rw[<-r1.length];exact hz,I1.bk _ _ hC,hN.keeps I1.bk,T.keeps I1.bk,fun h' e hx=>hr pins σ H1 s1 h' e us s1.toks I1 hx q1⟩
end
section
variable{X:Cx}{pins:List (Addr×Obj)}{σ:St}{H:Hp}{s:Shared}
def zgn(i:Nat)(D:Ends):Ends:={ nx:=fun σ H=>D.nx (σ.set i none) H,rt:=D.rt,bk:=fun σ H=>D.bk (σ.set i none) H,ct:=fun σ H=>D.ct (σ.set i none) H }
def tTryAs(K:Fg)(D0:Addr)(i:Nat)(tb:(St->Value->Hp->Prop)->List (Addr×Obj)->TS)(ts:Value->TS):TS:=fun D σ H=>∃J:St->Value->Hp->Prop,(∀pn,tb J pn D σ H) /\
  ∀σ1 c H1,J σ1 c H1->∃C,c=.ref C/\Err K C/\PySem.W.mroIn K C (.ref D0)=some true/\∀e ea,H1 ea=none->ts e (zgn i D) (σ1.set i (some (.ref ea))) (upd H1 ea (ExcO ea C))
def tTry0(K:Fg)(D0:Addr)(tb:(St->Value->Hp->Prop)->List (Addr×Obj)->TS)(ts:Value->TS):TS:=fun D σ H=>∃J:St->Value->Hp->Prop,(∀pn,tb J pn D σ H) /\
  ∀σ1 c H1,J σ1 c H1->∃C,c=.ref C/\Err K C/\PySem.W.mroIn K C (.ref D0)=some true/\∀e,ts e D σ1 H1
theorem suK{e:Value}:(X.suite e).K=X.K:=rfl
theorem noxK:X.nox.K=X.K:=rfl
theorem tryK{pn:List (Addr×Obj)}{J:St->Value->Hp->Prop}:(tryCx X pn J).K=X.K:=rfl
theorem zjy{K:Fg}{D0:Addr}{i:Nat}{tb:(St->Value->Hp->Prop)->List (Addr×Obj)->TS}{ts:Value->TS}{D:Ends}:tTryAs K D0 i tb ts D σ H=∃J:St->Value->Hp->Prop,(∀pn,tb J pn D σ H) /\
  ∀σ1 c H1,J σ1 c H1->∃C,c=.ref C/\Err K C/\PySem.W.mroIn K C (.ref D0)=some true/\∀e ea,H1 ea=none->ts e (zgn i D) (σ1.set i (some (.ref ea))) (upd H1 ea (ExcO ea C)):=rfl
theorem e_try0{K:Fg}{D0:Addr}{tb:(St->Value->Hp->Prop)->List (Addr×Obj)->TS}{ts:Value->TS}{D:Ends}:tTry0 K D0 tb ts D σ H=∃J:St->Value->Hp->Prop,(∀pn,tb J pn D σ H) /\
  ∀σ1 c H1,J σ1 c H1->∃C,c=.ref C/\Err K C/\PySem.W.mroIn K C (.ref D0)=some true/\∀e,ts e D σ1 H1:=rfl
end
end L2
namespace L2
open PySem PySem.Spec PyProof.Rows
structure ErrQ(K:Fg)(C:Addr):Prop extends Err K C where
  ga:PySem.W.findIn K (.ref C) "__getattribute__" = some (some (.builtin "BaseException.__getattribute__"))
  gn:PySem.W.findIn K (.ref C) "__getattr__" = some none
  gc:PySem.W.findIn K (.ref C) "__class__" = some (some (.builtin "object.__class__"))
section
variable{prog:Program}{w:World}{A:Around}{E:Value->Shared->Prop}{h:Heap}{g:Array GenState}{d:Drawn}{t:Nat}{os:OsState}{a C:Addr}{o:Obj}{K:Fg}
end
section
variable{X:Cx}{pins:List (Addr×Obj)}{σ:St}{H:Hp}{s:Shared}
end
theorem zar {K:Fg} {h:Heap} {mg:Str->Option Value} (X:K.In h) (G:h.Ns mainGlobals mg) {name:Str} {C:Addr} (e:PySem.W.nsIn K mainGlobals name=some (some (.ref C))) (q:PySem.W.excIn K C VE "ValueError.__new__" = true)
    (g1:PySem.W.findIn K (.ref C) "__getattribute__" = some (some (.builtin "BaseException.__getattribute__"))) (g2:PySem.W.findIn K (.ref C) "__getattr__" = some none) (g3:PySem.W.findIn K (.ref C) "__class__" = some (some (.builtin "object.__class__"))) :
    mg name=some (.ref C)/\ErrQ K C:=⟨PySem.W.mg_of X G e,⟨⟨q⟩,g1,g2,g3⟩⟩
theorem kit_self{K:Fg}{C:Addr}:PySem.W.kitOne K (.ref C) (.ref C)=some true:=by
  unfold PySem.W.kitOne;rw[if_pos (by simp)]
theorem kit_mk {K:Fg} {C D:Addr} {cd:ClassData} {b:Bool} (h0:(Value.ref C==Value.ref D)=false) (h1:PySem.W.clsIn K D=some cd) (h2:PySem.W.typeIn K (.ref D)=some (.type "type")) (h3:PySem.W.subIn K (.ref C) (.ref D)=some b):PySem.W.kitOne K (.ref C) (.ref D)=some b:=by
  unfold PySem.W.kitOne PySem.W.kitCls;rw[if_neg (by rw[h0];simp)]
  show(if ((PySem.W.clsIn K D).isSome&&PySem.W.typeIn K (.ref D)==some (.type "type"))=true then PySem.W.subIn K (.ref C) (.ref D) else none)=some b
  rw[h1,h2,if_pos (by simp)];exact h3
theorem kitV_mk {K:Fg} {C:Addr} {b:Bool} (h3:PySem.W.subIn K (.ref C) (.type "ValueError")=some b):PySem.W.kitOne K (.ref C) (.type "ValueError")=some b:=by
  unfold PySem.W.kitOne PySem.W.kitCls;rw[if_neg (by simp)]
  show(if PySem.W.kitMeta "ValueError" = true then PySem.W.subIn K (.ref C) (.type "ValueError") else none)=some b
  rw[if_pos (by decide +kernel)];exact h3
theorem Same.seqT{K:Fg}{H H':Hp}{a:Addr}{xs:List V}(e:Same H H')(h:SqT K H a xs):SqT K H' a xs:=by
  rcases h with (h | ⟨o,h⟩) | h
  . exact .inl (.inl (e _ _ h))
  . exact .inl (.inr ⟨o,e _ _ h⟩)
  . exact .inr h
end L2
namespace L2
open PySem PySem.Spec PyProof.Rows
inductive Tr where
  | lf (v:V) | ls (ts:List Tr) | tp (ts:List Tr)
mutual
def TrAt(K:Fg)(H:Hp):Tr->V->Prop
  | .lf v,x=>x=v/\wv v=true
  | .ls ts,x=>∃a xs,x=.ref a/\SqL K H a xs/\TrsAt K H ts xs
  | .tp ts,x=>∃a xs,x=.ref a/\SqT K H a xs/\TrsAt K H ts xs
def TrsAt(K:Fg)(H:Hp):List Tr->List V->Prop
  | [],xs=>xs=[]
  | t::ts,xs=>∃y ys,xs=y::ys/\TrAt K H t y/\TrsAt K H ts ys
end
mutual
def eqTr:Tr->Tr->Bool
  | .lf v,.lf w=>eqV v w
  | .ls ts,.ls us=>zem ts us
  | .tp ts,.tp us=>zem ts us
  | _,_=>false
def zem:List Tr->List Tr->Bool
  | [],[]=>true
  | t::ts,u::us=>eqTr t u&&zem ts us
  | _,_=>false
end
mutual
def deep:Tr->Nat
  | .lf _=>0
  | .ls ts=>e7 ts+1
  | .tp ts=>e7 ts+1
def e7:List Tr->Nat
  | []=>0
  | t::ts=>max (deep t) (e7 ts)
end
theorem TrsAt.len{K:Fg}{H:Hp}:∀{ts:List Tr} {xs:List V},TrsAt K H ts xs->ts.length=xs.length
  | [],xs,h=>by rw[TrsAt]at h;rw[h];rfl
  | t::ts,xs,h=>by
    rw[TrsAt]at h;obtain⟨y,ys,rfl,_,h⟩:=h;simp[TrsAt.len h]
theorem TrsAt.get{K:Fg}{H:Hp}:∀{ts:List Tr} {xs:List V} {j:Nat} {x:V},TrsAt K H ts xs->xs[j]? = some x->∃t,ts[j]? = some t/\TrAt K H t x
  | [],xs,j,x,h,e=>by rw[TrsAt]at h;subst h;simp at e
  | t::ts,xs,0,x,h,e=>by
    rw[TrsAt]at h;obtain⟨y,ys,rfl,h1,h⟩:=h;cases e;exact⟨t,rfl,h1⟩
  | t::ts,xs,j+1,x,h,e=>by
    rw[TrsAt]at h;obtain⟨y,ys,rfl,h1,h⟩:=h;exact TrsAt.get (ts:=ts) (j:=j) h e
theorem TrsAt.of{K:Fg}{H:Hp}:∀{ts:List Tr} {xs:List V},ts.length=xs.length->(∀(j:Nat) (t:Tr) (x:V),ts[j]? = some t->xs[j]? = some x->TrAt K H t x)->TrsAt K H ts xs
  | [],[],_,_=>by rw[TrsAt]
  | t::ts,x::xs,hl,h=>by
    rw[TrsAt];exact⟨x,xs,rfl,h 0 t x rfl rfl,TrsAt.of (by simpa using hl) fun j t x e1 e2=>h (j+1) t x e1 e2⟩
section
variable{X:Cx}{pins:List (Addr×Obj)}{σ:St}{H:Hp}{s:Shared}
end
section
variable{X:Cx}
def SameK:Tr->Tr->Prop
  | .ls _,.ls _=>True
  | .tp _,.tp _=>True
  | _,_=>False
theorem SameK.of{t t':Tr}(h:SameK t t'):(∃ts us,t=.ls ts/\t'=.ls us)\/∃ts us,t=.tp ts/\t'=.tp us:=by
  cases t <;> cases t' <;> first | exact .inl ⟨_,_,rfl,rfl⟩ | exact .inr ⟨_,_,rfl,rfl⟩ | exact h.elim
def rEqD(K:Fg)(n:Nat)(neg:Bool)(x y:V)(H:Hp)(Q:VK):Prop:=∃t t',SameK t t'/\TrAt K H t x/\TrAt K H t' y/\deep t<=n/\deep t'<=n/\Q (.bl (neg ^^ eqTr t t')) H
end
section
variable{X:Cx}{pins:List (Addr×Obj)}{σ:St}{H:Hp}{s:Shared}
open Classical in
end
section
variable{X:Cx}
def inTr(t:Tr)(ts:List Tr):Bool:=ts.any fun u=>eqTr u t
def rInD(K:Fg)(n:Nat)(neg:Bool):R2:=fun x y H Q=>∃p xs ts t,y=.ref p/\(SqL K H p xs\/SqT K H p xs)/\TrsAt K H ts xs/\TrAt K H t x/\deep t<=n/\e7 ts<=n/\Q (.bl (neg ^^ inTr t ts)) H
end
mutual
theorem TrAt.mono{K:Fg}{H H':Hp}(S:Same H H'):∀{t:Tr} {x:V},TrAt K H t x->TrAt K H' t x
  | .lf v,x,h=>by rw[TrAt]at h ⊢;exact h
  | .ls ts,x,h=>by
    rw[TrAt]at h ⊢;obtain⟨a,xs,e,sq,h⟩:=h;exact⟨a,xs,e,S.seq sq,TrsAt.mono S h⟩
  | .tp ts,x,h=>by
    rw[TrAt]at h ⊢;obtain⟨a,xs,e,sq,h⟩:=h;exact⟨a,xs,e,Same.seqT S sq,TrsAt.mono S h⟩
theorem TrsAt.mono{K:Fg}{H H':Hp}(S:Same H H'):∀{ts:List Tr} {xs:List V},TrsAt K H ts xs->TrsAt K H' ts xs
  | [],xs,h=>by rw[TrsAt]at h ⊢;exact h
  | t::ts,xs,h=>by
    rw[TrsAt]at h ⊢;obtain⟨y,ys,e,h1,h2⟩:=h;exact⟨y,ys,e,TrAt.mono S h1,TrsAt.mono S h2⟩
end
theorem TrAt.lf{K:Fg}{H:Hp}{v:V}(f:wv v=true):TrAt K H (.lf v) v:=by rw[TrAt];exact⟨rfl,f⟩
theorem TrAt.ls{K:Fg}{H:Hp}{a:Addr}{xs:List V}{ts:List Tr}(h:SqL K H a xs)(q:TrsAt K H ts xs):TrAt K H (.ls ts) (.ref a):=by rw[TrAt];exact⟨a,xs,rfl,h,q⟩
theorem TrAt.tp{K:Fg}{H:Hp}{a:Addr}{xs:List V}{ts:List Tr}(h:SqT K H a xs)(q:TrsAt K H ts xs):TrAt K H (.tp ts) (.ref a):=by rw[TrAt];exact⟨a,xs,rfl,h,q⟩
theorem TrsAt.nil{K:Fg}{H:Hp}:TrsAt K H [] []:=by rw[TrsAt]
theorem TrsAt.cons{K:Fg}{H:Hp}{t:Tr}{ts:List Tr}{x:V}{xs:List V}(h:TrAt K H t x)(q:TrsAt K H ts xs):TrsAt K H (t::ts) (x::xs):=by rw[TrsAt];exact⟨x,xs,rfl,h,q⟩
theorem TrsAt.flat{K:Fg}{H:Hp}:∀{xs:List V},xs.all wv=true->TrsAt K H (xs.map Tr.lf) xs
  | [],_=>TrsAt.nil
  | x::xs,f=>by
    rw[List.all_cons,Bool.and_eq_true]at f;exact TrsAt.cons (TrAt.lf f.1) (TrsAt.flat f.2)
theorem TrsAt.append{K:Fg}{H:Hp}:∀{ts us:List Tr} {xs ys:List V},TrsAt K H ts xs->TrsAt K H us ys->TrsAt K H (ts++us) (xs++ys)
  | [],us,xs,ys,h,q=>by rw[TrsAt]at h;subst h;exact q
  | t::ts,us,xs,ys,h,q=>by
    rw[TrsAt]at h;obtain⟨y,zs,rfl,h1,h2⟩:=h;exact TrsAt.cons h1 (TrsAt.append h2 q)
theorem e_eqD{K:Fg}{n:Nat}{neg:Bool}{x y:V}{H:Hp}{Q:VK}:rEqD K n neg x y H Q=∃t t',SameK t t'/\TrAt K H t x/\TrAt K H t' y/\deep t<=n/\deep t'<=n/\Q (.bl (neg ^^ eqTr t t')) H:=rfl
theorem e_inD{K:Fg}{n:Nat}{neg:Bool}{x y:V}{H:Hp}{Q:VK}:rInD K n neg x y H Q=∃p xs ts t,y=.ref p/\(SqL K H p xs\/SqT K H p xs)/\TrsAt K H ts xs/\TrAt K H t x/\deep t<=n/\e7 ts<=n/\Q (.bl (neg ^^ inTr t ts)) H:=rfl
end L2
namespace L2
open PySem PySem.Spec PyProof.Rows
def chr1(c:Nat):Str:=⟨#[c]⟩
def Itw(x:Str):It:=⟨fun i _=>i<x.cps.size,fun i H v H'=>H'=H/\∃c,x.cps[i]? = some c/\v=.str (chr1 c),fun i _=>x.cps.size<=i⟩
theorem zgq{P:Program}{w:World}{K:Fg}{tg:Expr}(it:Addr)(x:Str)(t:Tok):Turn P w K tg (Itw x) [it] it (fun i h=>h.IsStrIter it "str_ascii_iterator" x t i) where
  mem:=by simp
  obj:=fun i h st b hb=>by
    have e:b=it:=by simpa using hb
    subst e;obtain⟨o,e,c,d⟩:=st;exact⟨o,e,fun v z=>by rw[d]at z;cases z⟩
  keep:=fun i h h' st k=>by
    obtain⟨o,e,r⟩:=st;exact⟨o,k it (by simp) o e,r⟩
  item:=by
    intro X hP hw hK hc i pins s σ H E I hf st hg;subst hP hw hK;have hi:i<x.cps.size:=hg;obtain⟨f0,f1,f2,f3,f4,f5⟩:=hf it (by simp);refine wpAny_pyNext_ascii_item st (c:=x.cps[i]) (by simp[hi]) fun h' st' sb => ?_
    have I1:Inv X pins σ H { s with heap:=h',toks:=s.toks+1 }:=I.turned (t':=s.toks+1) (fun b o hb e=>(sb.2 b hb).trans e) f0 f1 f3 f4 f5;obtain⟨o,e,c,d⟩:=id st';exact⟨_,rfl,ip (s:={ s with heap:=h',toks:=s.toks+1 }) e c d (by decide) ⟨.str (chr1 x.cps[i]),H,I1,⟨_,rfl⟩,⟨rfl,_,by simp[hi],rfl⟩,st',fun b hb=>(hf b hb).1⟩⟩
  done:=by
    intro X hP hw hK hc i pins s σ H E I hf st hg;subst hP hw hK;have hi:x.cps.size<=i:=hg;obtain⟨f0,f1,f2,f3,f4,f5⟩:=hf it (by simp);exact wpAny_pyNext_ascii_end (I.ok.hd hc) st (by simp[hi]) fun h' eb=>⟨rfl,I.turned (t':=s.toks) (fun b o hb e=>eb b o hb e) f0 f1 f3 f4 f5⟩
  self:=fun _ _ _ _ _ st h=>wpAny_pyIter_striter_ascii st h
theorem zff{P:Program}{w:World}{K:Fg}{tg:Expr}(it:Addr)(x:Str)(t:Tok):Turn P w K tg (Itw x) [it] it (fun i h=>h.IsStrIter it "str_iterator" x t i) where
  mem:=by simp
  obj:=fun i h st b hb=>by
    have e:b=it:=by simpa using hb
    subst e;obtain⟨o,e,c,d⟩:=st;exact⟨o,e,fun v z=>by rw[d]at z;cases z⟩
  keep:=fun i h h' st k=>by
    obtain⟨o,e,r⟩:=st;exact⟨o,k it (by simp) o e,r⟩
  item:=by
    intro X hP hw hK hc i pins s σ H E I hf st hg;subst hP hw hK;have hi:i<x.cps.size:=hg;obtain⟨f0,f1,f2,f3,f4,f5⟩:=hf it (by simp);refine wpAny_pyNext_wide_item st (c:=x.cps[i]) (by simp[hi]) fun h' st' sb => ?_
    have I1:Inv X pins σ H { s with heap:=h',toks:=s.toks+1 }:=I.turned (t':=s.toks+1) (fun b o hb e=>(sb.2 b hb).trans e) f0 f1 f3 f4 f5;obtain⟨o,e,c,d⟩:=id st';exact⟨_,rfl,ip (s:={ s with heap:=h',toks:=s.toks+1 }) e c d (by decide) ⟨.str (chr1 x.cps[i]),H,I1,⟨_,rfl⟩,⟨rfl,_,by simp[hi],rfl⟩,st',fun b hb=>(hf b hb).1⟩⟩
  done:=by
    intro X hP hw hK hc i pins s σ H E I hf st hg;subst hP hw hK;have hi:x.cps.size<=i:=hg;obtain⟨f0,f1,f2,f3,f4,f5⟩:=hf it (by simp);exact wpAny_pyNext_wide_end (I.ok.hd hc) st (by simp[hi]) fun h' eb=>⟨rfl,I.turned (t':=s.toks) (fun b o hb e=>eb b o hb e) f0 f1 f3 f4 f5⟩
  self:=fun _ _ _ _ _ st h=>wpAny_pyIter_striter_wide st h
def iStr(a:TE):TI:=fun σ H R=>a σ H fun x H1=>∃z,x=.str z/\R (Itw z) H1
theorem pi_str{X:Cx}{tg l:Expr}{tl:TE}(hl:PE X l tl):PI X tg l (iStr tl):=by
  intro pins s σ H R I h;refine thn (hl pins s σ H _ I h) fun v s1 ⟨x,H1,I1,r1,q1⟩ => ?_
  obtain⟨z,e,q⟩:=q1;subst e;obtain⟨t,rfl⟩:=r1;refine wpAny_pyIter_strU ?_
  have fin:∀{tn:Nat->Heap->Prop},Turn X.prog X.w X.K tg (Itw z) [s1.heap.objs.size] s1.heap.objs.size tn->tn 0 (s1.heap.push { cls:=.type (strIterType z),data:=.fields #[.str z t,.int 0 0] }) ->
      PIE X pins σ tg R (.ref s1.heap.objs.size) { s1 with heap:=s1.heap.push { cls:=.type (strIterType z),data:=.fields #[.str z t,.int 0 0] } }:=fun {tn} T h0=>by
    refine⟨s1.heap.objs.size,[s1.heap.objs.size],_,_,H1,rfl,I1.kept (t':=s1.toks) fun b o e=>Heap.get?_push_of_some _ e,T,h0,fun b hb => ?_,q⟩;have e:b=s1.heap.objs.size:=by simpa using hb
    subst e;exact I1.fpOk (Zm _) (I1.hok.fresh (Zm _))
  cases ha:z.cps.all (· < 128) with
  | true =>
    have e:strIterType z = "str_ascii_iterator" := by simp[strIterType,ha]
    refine fin (zgq _ z t) ?_;exact⟨_,Heap.get?_push_size _ rfl,by rw[e],rfl⟩
  | false =>
    have e:strIterType z = "str_iterator" := by simp[strIterType,ha]
    refine fin (zff _ z t) ?_;exact⟨_,Heap.get?_push_size _ rfl,by rw[e],rfl⟩
theorem e_iStr{a:TE}{σ:St}{H:Hp}{R:It->Hp->Prop}:iStr a σ H R=a σ H fun x H1=>∃z,x=.str z/\R (Itw z) H1:=rfl
def xj(z:Str)(n:Nat):Str:=⟨(List.replicate n z.cps.toList).flatten.toArray⟩
theorem zfy:∀(n:Nat) (a acc:Array Nat),(List.replicate n a).foldl (· ++ ·) acc=acc++(List.replicate n a.toList).flatten.toArray:=by
  intro n
  induction n with
  | zero=>intro a acc;simp
  | succ n ih =>
    intro a acc;rw[YU,Xe,ih,YU,List.flatten_cons]
    apply Array.ext'
    simp
theorem mul_is(z:Str)(n:Int):Txt.mul z n=xj z n.toNat:=by
  unfold Txt.mul xj
  by_cases h:n<1
  . rw[if_pos h,show n.toNat=0 by omega];rfl
  . rw[if_neg h]
    by_cases h2:(n==1||z.length==0)=true
    . rw[if_pos h2]
      rcases Bool.or_eq_true _ _▸h2 with q | q
      . have:n=1:=by simpa using q
        subst this
        show z=_
        have:(1:Int).toNat=1:=rfl;rw[this];simp
      . have e:z.cps.size=0:=by simpa[Str.length] using q
        have e2:z.cps = #[]:=Array.eq_empty_of_size_eq_zero e;obtain⟨c⟩:=z;simp only at e2;subst e2;simp
    . rw[if_neg h2,zfy]
      simp
section
variable{X:Cx}
def rMulS:R2:=fun x y H Q=>∃z n,x=.str z/\y=.int n /\ -(2^62)<=n/\n<2^31/\z.length*n.toNat<=2^20/\Q (.str (xj z n.toNat)) H
theorem cj:OpR X (binaryOp .Mult) rMulS:=by
  intro pins s σ H x y v u Q I rx ry h;obtain⟨z,n,rfl,rfl,h1,h2,h3,q⟩:=h;obtain⟨t,rfl⟩:=rx;obtain⟨t',rfl⟩:=ry;refine SB.mul ⟨?_,fun h4 h5 => ?_,fun h4 h5 => ?_⟩ fun tk k => ?_
  . rw[decide_eq_false (by omega),decide_eq_false (by omega)];rfl
  . intro h6
    have h7:(z.length:Int)*n<=2^20:=by
      have:((z.length*n.toNat:Nat):Int)<=((2^20:Nat):Int):=by exact_mod_cast h3
      rw[Xf,Yl (by omega)]at this;exact this
    have h8:(2^63-1:Int)/n*n<=z.length*n:=Int.mul_le_mul_of_nonneg_right (by omega) (by omega);have h9:=Int.emod_add_mul_ediv (2^63-1:Int) n;have h10:(2^63-1:Int) % n<n:=ZU _ (by omega);rw[Int.mul_comm]at h8;omega
  . have:z.length*n.toNat<=sizeLine:=Zd h3 (by decide)
    show decide (z.length*n.toNat > sizeLine)=false
    exact decide_eq_false (by omega)
  . rw[mul_is]
    exact⟨.str (xj z n.toNat),H,I.tok _,⟨_,rfl⟩,q⟩
theorem e_mulS{x y:V}{H:Hp}{Q:VK}:rMulS x y H Q=∃z n,x=.str z/\y=.int n /\ -(2^62)<=n/\n<2^31/\z.length*n.toNat<=2^20/\Q (.str (xj z n.toNat)) H:=rfl
end
theorem hu9{A:Around}{k:Nat}(hr:Room k A):A.units+1+8<=cLine:=by have:=hr.un;omega
theorem e_ixS{x y:V}{H:Hp}{Q:VK}:rIxS x y H Q=∃z i c,x=.str z/\y=.int i/\z.length<=sizeLine/\atI z.cps.toList i=some c/\Q (.str ⟨#[c]⟩) H:=rfl
theorem e_iT{K:Fg}{a:TE}{σ:St}{H:Hp}{R:It->Hp->Prop}:iTup K a σ H R=a σ H fun x H1=>∃p,x=.ref p/\(∃xs,SqT K H1 p xs)/\R (Itt K p) H1:=rfl
section
variable{X:Cx}
def rJoin(K:Fg):V->List V->Hp->VK->Prop:=fun x vs H Q=>∃sep b texts,x=.str sep/\vs=[.ref b]/\SqL K H b (texts.map V.str)/\JoinOk sep texts=true/\Q (.str (Txt.join sep texts)) H
theorem e_join{K:Fg}{x:V}{vs:List V}{H:Hp}{Q:VK}:rJoin K x vs H Q=∃sep b texts,x=.str sep/\vs=[.ref b]/\SqL K H b (texts.map V.str)/\JoinOk sep texts=true/\Q (.str (Txt.join sep texts)) H:=rfl
end
section
variable{σ:St}{k:Nat}{g:TG}{tt:TT}{te:TE}{H1:Hp}{Fin:List V->Hp->Prop}
theorem g0{K:Fg}{a:Addr}{xs:List V}(Pv:Nat->List V->Hp->Prop)(h0:Pv 0 [] H1)(hz:∀i ys H,i<=xs.length->Pv i ys H->ys.length<=sizeLine/\SqT K H a xs)
    (hs:∀i x ys H,xs[i]? = some x->Pv i ys H->g x (List.replicate k none++σ) H fun σ2 H2=>σ2.drop k=σ/\tt σ2 H2 fun b H3=>if b=true then te σ2 H3 fun v H4=>Pv (i+1) (ys++[v]) H4 else Pv (i+1) ys H3)
    (hd:∀ys H,Pv xs.length ys H->Fin ys H):sw (Itt K a) σ k g tt te H1 Fin:=by
  refine⟨fun i m ys H=>m=xs.length-i/\i<=xs.length/\Pv i ys H,⟨xs.length,by simp,ZE _,h0⟩,?_⟩
  rintro i m ys H ⟨rfl,hi,p⟩
  have q:=(hz i ys H hi p).2;refine⟨(hz i ys H hi p).1,?_⟩
  by_cases hlt:i<xs.length
  . refine .inr ⟨⟨xs,xs[i],q,by simp[hlt]⟩,Pv (i+1),fun ys' H' p'=>⟨xs.length-(i+1),by omega,rfl,hlt,p'⟩,fun x H' y => ?_⟩
    obtain⟨e,y⟩:=y;subst e;exact hs i x ys _ (y xs q) p
  . have e:i=xs.length:=by omega
    subst e;exact .inl ⟨⟨xs,q,Zm _⟩,hd ys H p⟩
end
theorem yo{e:Expr}{es:List Expr}{env:Env}(h:∀e' p,e≠.Starred e' p):starEach (e::es) env=(false,eval e env)::starEach es env:=by
  cases e <;> first | rfl | exact absurd rfl (h _ _)
def iSeq(K:Fg)(tl:TE):TI:=fun σ H R=>tl σ H fun x H1=>∃a,x=.ref a/\(((∃xs,SqL K H1 a xs)/\R (Itl K a) H1)\/((∃xs,SqT K H1 a xs)/\R (Itt K a) H1))
theorem e_iSeq{K:Fg}{tl:TE}{σ:St}{H:Hp}{R:It->Hp->Prop}:iSeq K tl σ H R=tl σ H fun x H1=>∃a,x=.ref a/\(((∃xs,SqL K H1 a xs)/\R (Itl K a) H1)\/((∃xs,SqT K H1 a xs)/\R (Itt K a) H1)):=rfl
section
variable{X:Cx}
def rTupL(K:Fg):List V->Hp->VK->Prop:=fun xs H Q=>∃p ys,xs=[.ref p]/\SqL K H p ys/\∀l,H l=none->Q (.ref l) (upd H l (.tup ys))
theorem x9:CallR X (.type "tuple") (rTupL X.K):=fun pins s σ H xs us Q I r h=>by
  obtain⟨p,ys,e,hq,q⟩:=h;exact ac pins s σ H xs us Q I r ⟨p,ys,e,.inl ⟨hq,q⟩⟩
theorem e_tupL{K:Fg}{xs:List V}{H:Hp}{Q:VK}:rTupL K xs H Q=∃p ys,xs=[.ref p]/\SqL K H p ys/\∀l,H l=none->Q (.ref l) (upd H l (.tup ys)):=rfl
end
end L2
namespace L2
open PySem PySem.Spec PyProof.Rows
section
variable{X:Cx}
def rMinL(K:Fg)(xs:List V)(H:Hp)(Q:VK):Prop:=∃(p:Addr) (ns:List Int),xs=[.ref p]/\SqL K H p (ns.map V.int)/\0<ns.length/\∀m,m∈ns->(∀a∈ns,m<=a)->Q (.int m) H
def rMaxL(K:Fg)(xs:List V)(H:Hp)(Q:VK):Prop:=∃(p:Addr) (ns:List Int),xs=[.ref p]/\SqL K H p (ns.map V.int)/\0<ns.length/\∀m,m∈ns->(∀a∈ns,a<=m)->Q (.int m) H
theorem e_minL{K:Fg}{xs:List V}{H:Hp}{Q:VK}:rMinL K xs H Q=∃(p:Addr) (ns:List Int),xs=[.ref p]/\SqL K H p (ns.map V.int)/\0<ns.length/\∀m,m∈ns->(∀a∈ns,m<=a)->Q (.int m) H:=rfl
theorem e_maxL{K:Fg}{xs:List V}{H:Hp}{Q:VK}:rMaxL K xs H Q=∃(p:Addr) (ns:List Int),xs=[.ref p]/\SqL K H p (ns.map V.int)/\0<ns.length/\∀m,m∈ns->(∀a∈ns,a<=m)->Q (.int m) H:=rfl
theorem zhf(hc:X.calm=true):CallR X (.builtin "min") (rMinL X.K):=by
  intro pins s σ H xs us Q I r h;obtain⟨p,ns,rfl,hq,hne,q⟩:=h;obtain⟨u,rfl,rx⟩:=Vals.one r;cases rx;obtain⟨its,rv,pl,hz⟩:=I.list hq;have hi:IntsAre its ns:=zfe rv;obtain⟨zs,hx⟩:=hi.allInts.items;have hl':s.heap.IsList p (intItems zs):=hx▸pl.isList
  have hns:ns=zs.toList.map (·.1):=by
    rw[<-nums_intItems,<-hx];exact(show numsOf its.toArray.toList=ns from hi.numsOf).symm
  have hsz:0<zs.size:=by
    have h3:=hne;rw[hns,Za,Yd]at h3;exact h3
  refine min_intList (I.ok.hd hc) hl' hsz fun v h' tk hv hk => ?_
  obtain⟨t,rfl⟩:=intItems_at hv;obtain⟨h1,h2⟩:=argBest_lt (numAt zs) (zs.size-1);refine⟨V.int _,H,I.kept hk,⟨_,rfl⟩,q _ ?_ fun a ha => ?_⟩
  . rw[hns,numAt_eq];exact getD_mem (by rw[Za,Yd];omega)
  . rw[hns]at ha
    obtain⟨j,hj,rfl⟩:=mem_getD ha;rw[Za,Yd]at hj;rw[<-numAt_eq];exact h2 j (by omega)
end
end L2
namespace L2
open PySem PySem.Spec PyProof.Rows
section
variable{prog:Program}{w:World}{A:Around}{E:Value->Shared->Prop}{s:Shared}
end
section
variable{X:Cx}
end
end L2
namespace L2
open PySem PySem.Spec PyProof.Rows
def seen(val:Nat->Str):Nat->List Str
  | 0=>[]
  | i+1=>if val i∈seen val i then seen val i else seen val i++[val i]
theorem zag(val:Nat->Str):∀i,(seen val i).length<=i
  | 0=>Zm _
  | i+1=>by
    have:=zag val i;unfold seen
    split
    . omega
    . rw[Zo,YN];omega
theorem zhp(val:Nat->Str)(i:Nat)(k:Str):(decide (k∈seen val i)||decide (k=val i))=decide (k∈seen val (i+1)):=by
  conv=>rhs;unfold seen
  split
  . rename_i h
    by_cases e:k=val i
    . subst e;simp[h]
    . simp[e]
  . simp
theorem zeb(val:Nat->Str)(i:Nat):(if decide (val i∈seen val i)=true then(seen val i).length else(seen val i).length+1)=(seen val (i+1)).length:=by
  conv=>rhs;unfold seen
  by_cases h:val i∈seen val i
  . simp[h]
  . simp[h]
section
variable{prog:Program}{w:World}{A:Around}{R:Result->Shared->Prop}{I:Addr}{fp wr:List Addr}{G:Array GenState->Array GenState->Prop}{n:Nat}{P:Nat->Value->Prop}{St:Nat->Shared->Prop}
theorem a8(W:WalksS prog w A.in1 I fp wr G n P St)(T:Addr)(hT:T∉fp)(val:Nat->Str)(hval:∀i v,P i v->∃t,v=.str (val i) t)(hb:n+1<scanBound) :
    ∀(k i:Nat) (s:Shared),n-i=k->i<=n->St i s->s.heap.SetOf (PySem.strKind prog w) T (fun k'=>decide (k'∈seen val i)) (seen val i).length ->
      (∀s',Moved (T::wr) G s s'->s'.heap.SetOf (PySem.strKind prog w) T (fun k'=>decide (k'∈seen val n)) (seen val n).length->R (.ok (.ret .none)) s') ->
      codeAny (model prog w) A (.builtin "set.update.loop" ⟨[.ref T,.ref I],[]⟩) R s:=by
  have hTw:T∉wr:=fun h=>hT (W.sub _ h)
  have sub:∀b∈wr,b∈T::wr:=fun b h=>Zv _ h
  intro k
  induction k with
  | zero =>
    intro i s hk hi hst hS hR;obtain rfl:i=n:=by omega
    refine codeAny_builtin PyProof.Rows.F.entry_set_update_loop ?_;rw[Around.under_plainId PyProof.Rows.F.plain_set_update_loop _]
    show wpAny _ A.in1 (pyNext (.ref I) >>= _) _ _ s
    refine wpAny_bind (W.done s _ _ hst fun s' hm => ?_);refine wpAny_pure (hR s' (hm.mono sub) ?_);obtain⟨o,es,ep,t,ho,r⟩:=hS;exact⟨o,es,ep,t,hm.heap T _ hTw ho,r⟩
  | succ k ih =>
    intro i s hk hi hst hS hR;have hlt:i<n:=by omega
    refine codeAny_builtin PyProof.Rows.F.entry_set_update_loop ?_;rw[Around.under_plainId PyProof.Rows.F.plain_set_update_loop _]
    show wpAny _ A.in1 (pyNext (.ref I) >>= _) _ _ s
    refine wpAny_bind (W.item i s _ _ hlt hst fun v s' hP hst' hm => ?_);obtain⟨t,rfl⟩:=hval i v hP
    have hS':s'.heap.SetOf (PySem.strKind prog w) T (fun k'=>decide (k'∈seen val i)) (seen val i).length:=by
      obtain⟨o,es,ep,tb,ho,r⟩:=hS;exact⟨o,es,ep,tb,hm.heap T _ hTw ho,r⟩
    show wpAny _ A.in1 (holding [Value.str (val i) t] (setAdd T (.str (val i) t)) >>= _) _ _ s'
    refine wpAny_bind (wpAny_holding ?_);unfold setAdd;refine wpAny_holding (wpAny_bind ((PySem.strKind prog w).pyHash (k:=val i) (strKind_is _ _ _ _) ?_));have room:(seen val i).length+1<scanBound:=by have:=zag val i;omega
    refine wpAny_setAddHashed_of (knd:=PySem.strKind prog w) (s:={ s' with toks:=s'.toks+1 }) (strKind_is _ _ _ _) rfl hS' room fun h' hsb hS2 => ?_
    have hSi:h'.SetOf (PySem.strKind prog w) T (fun k'=>decide (k'∈seen val (i+1))) (seen val (i+1)).length:=by
      have e1:=zeb val i;have e2:(fun k'=>decide (k'∈seen val (i+1)))=fun k'=>(decide (k'∈seen val i)||decide (k'=val i)):=funext fun k'=>(zhp val i k').symm
      rw[<-e1,e2];exact hS2
    refine wpAny_pure ⟨plainId_quiet PyProof.Rows.F.plain_set_update_loop _,ih (i+1) _ (by omega) hlt (W.frame _ s' _ _ hst' (Yt _) fun b hb o e => ?_) hSi fun s2 hm2 hS2' => ?_⟩
    . rw[hsb.2 b (fun z:b=T=>hT (z▸hb))];exact e
    . refine hR s2 (Moved.trans W.gtrans ((hm.mono sub).then_heap (Yt _) fun b o hb e => ?_) hm2) hS2'
      rw[hsb.2 b (fun z:b=T=>hb (z▸ZA))];exact e
end
abbrev setO(led:Bool):Obj:={ cls:=.type "set", dict:=none,data:=.set #[] 0 (.fresh 0 0 led) }
section
variable{prog:Program}{w:World}{A:Around}{E:Value->Shared->Prop}{s:Shared}
def zct(prog:Program)(w:World)(s:Shared)(val:Nat->Str)(n:Nat)(h':Heap):Prop :=
  h'.SetOf (PySem.strKind prog w) s.heap.objs.size (fun k'=>decide (k'∈seen val n)) (seen val n).length/\∀b o,b<s.heap.objs.size->s.heap.get? b=some o->h'.get? b=some o
set_option maxHeartbeats 3200000 in
theorem ae{l:Addr}{items:Array Value}{val:Nat->Str}{Q:Value->Shared->Prop}(hh:A.handled=none)(hl:s.heap.IsList l items)(hv:∀(i:Nat) v,items[i]? = some v->∃t,v=.str (val i) t)(hb:items.size+1<scanBound)
    (h:∀(h':Heap) (tk:Nat),zct prog w s val items.size h'->Q (.ref s.heap.objs.size) { s with heap:=h',toks:=tk }):wpAny (model prog w) A (call (.type "set") [.ref l]) Q E s:=by
  obtain⟨c,tl,hmro⟩:=F.called_set.mro;have hmade:=F.called_set.made;have hsub:=F.called_set.sub;refine wpAny_call (codeAny_of_tree ?_)
  show wpAny _ _ (callAny (.type "set") _) _ _ _
  refine wpAny_pure ⟨Code.quiet_builtin _ (by decide +kernel),codeAny_builtin F.entry_type_call ?_⟩;rw[Around.under_plain (weight_type_call_type "set" [.ref l] []) rfl];have h1:=F.called_set.notType;have h2:=F.called_set.canCreate;have hct:=F.typeCall_set_1 (.ref l)
  repeat (any_goals (first | assumption | wp_step))
  refine codeAny_mono (code_set_new_1 (.ref l) (E:=E) (Q₁:=fun obj s₁=>∃led:Bool,obj=.ref s.heap.objs.size/\s₁={ s with heap:=s.heap.push (setO led) }) fun led=>⟨led,rfl,rfl⟩) fun r s₁ hr => ?_
  match r,hr with
  | .error e,hr=>exact hr
  | .ok .next,hr=>exact hr.elim
  | .ok .brk,hr=>exact hr.elim
  | .ok .cont,hr=>exact hr.elim
  | .ok (.ret obj),hr =>
    obtain⟨led,rfl,rfl⟩:=hr;have hS:(s.heap.push (setO led)).get? s.heap.objs.size=some (setO led):=Heap.get?_push_size _ rfl;have hT:Shared.TypeIs { s with heap:=s.heap.push (setO led) } (.ref s.heap.objs.size) "set" := ⟨_,hS,rfl⟩;have hli:=F.called_set.init.lookup;have hbi:=F.called_set.init.bind (.ref s.heap.objs.size)
    repeat (any_goals (first | assumption | wp_step))
    refine codeAny_mono (codeAny_call_builtin (R:=wants (fun r s₂=>r=.none/\∃h' tk,s₂={ s with heap:=h',toks:=tk }/\zct prog w s val items.size h') E) F.called_set.init.plain F.entry_set_init (check_set_init_1 hT ?_)) fun r₂ s₂ hr₂ => ?_
    . obtain⟨ol,hol,hcl,nl,hdl⟩:=id hl
      have hl1:(s.heap.push (setO led)).IsList l items:=hl.push _;obtain⟨ocls,odict,odata,oslots⟩:=ol;simp only at hcl hdl;subst hcl;subst hdl;have hol':(s.heap.push (setO led)).get? l=some { cls:=.type "list", dict:=odict,data:=.seq items nl,slots:=oslots }:=Heap.get?_push_of_some _ hol;have hsls:=F.sub_list_set;have hslf:=F.sub_list_frozenset;have hne:(Value.type "list" == Value.type "dict")=false:=by decide
      unfold Builtin.«set.__init__» noKeywords Builtin.Frozenset.updateFrom;generalize hPI:pyIter=PI
      wp_walk
      subst hPI;refine wpAny_pyIter_list hl1 ?_;refine wpAny_bind (wpAny_runValue ?_);have hlS:l<s.heap.objs.size:=Heap.lt_size hol;have hsz:(s.heap.push (setO led)).objs.size=s.heap.objs.size+1:=size_push' ..;have hneI:l≠(s.heap.push (setO led)).objs.size:=by rw[hsz];exact Zs (Yp hlS)
      have hSf:s.heap.objs.size∉[(s.heap.push (setO led)).objs.size,l]:=by
        rw[hsz];simp only[ZK,Zx,or_false,not_or];exact⟨Zs (Yj _),Ye hlS⟩
      refine a8 ((Walks.list (by simp[hh]) _ l hneI items).toS) s.heap.objs.size hSf val hv hb (items.size-0) 0 _ (by omega) (ZE _) ⟨⟨_,Heap.get?_push_size _ rfl,rfl,rfl⟩,hl1.push _⟩ ?_ ?_
      . have hget:((s.heap.push (setO led)).push { cls:=.type "list_iterator", data:=.fields #[.ref l,.int 0 0] }).get? s.heap.objs.size=some (setO led):=Heap.get?_push_of_some _ hS
        exact(PyProof.Rows.setObjOf_fresh (knd:=PySem.strKind prog w) led).setOf hget (by unfold scanBound;omega)
      . intro s' hm hS'
        rw[Moved.eq_with hm];refine wpAny_pure ?_;refine wpAny_pure ⟨rfl,s'.heap,s'.toks,rfl,hS',fun b o hb e=>hm.heap b o ?_ (Heap.get?_push_of_some _ (Heap.get?_push_of_some _ e))⟩;rw[hsz];simp only[ZK,Zx,or_false,not_or];exact⟨Zs hb,Zs (Yp hb)⟩
    . match r₂,hr₂ with
      | .error e,hr₂=>exact hr₂
      | .ok .next,hr₂=>exact hr₂.elim
      | .ok .brk,hr₂=>exact hr₂.elim
      | .ok .cont,hr₂=>exact hr₂.elim
      | .ok (.ret r),hr₂ =>
        obtain⟨rfl,h',tk,rfl,hd⟩:=hr₂
        repeat (any_goals (first | assumption | wp_step))
        exact h _ _ hd
end
end L2
namespace L2
open PySem PySem.Spec PyProof.Rows
theorem zib{zs:List Str}{us:List Value}(r:Vals (zs.map V.str) us)(i:Nat)(v:Value)(h:us[i]? = some v):∃t,v=.str (zs.getD i ⟨#[]⟩) t:=by
  have hl:=r.length;rw[Za]at hl;have hi:i<zs.length:=by rw[hl];exact(Zc.mp h).1
  obtain⟨u,hu,ru⟩:=r.get (i:=i) (x:=V.str zs[i]) (by simp[hi]);rw[h]at hu;cases hu;obtain⟨t,rfl⟩:=ru;exact⟨t,by simp[Zk,hi]⟩
section
variable{X:Cx}
def zcm(K:Fg)(t:TA):TE:=fun σ H Q=>t σ H fun vs H1=>∃(p:Addr) (zs:List Str),vs=[.ref p]/\SqL K H1 p (zs.map V.str)/\zs.length<=1000/\Q (.int (seen (fun i=>zs.getD i ⟨#[]⟩) zs.length).length) H1
theorem zho{K:Fg}{t:TA}{σ:St}{H:Hp}{Q:VK}:zcm K t σ H Q=t σ H fun vs H1=>∃(p:Addr) (zs:List Str),vs=[.ref p]/\SqL K H1 p (zs.map V.str)/\zs.length<=1000/\Q (.int (seen (fun i=>zs.getD i ⟨#[]⟩) zs.length).length) H1:=rfl
theorem zg1 {e:Expr} {t:TA} {p1 p2 q1 q2:Pos} (hc:X.calm=true) (hgL:Gl X "len") (hmL:X.mg "len" = none) (hgR:Gl X "set") (hmR:X.mg "set" = none) (ha:PA X [e] t)
    (he:starEach [e] X.env=(false,eval e X.env)::starEach [] X.env:=by rfl) (he2:starEach [.Call (.Name "set" p2) [e] [] q2] X.env=(false,eval (.Call (.Name "set" p2) [e] [] q2) X.env)::starEach [] X.env:=by rfl) :
    PE X (.Call (.Name "len" p1) [.Call (.Name "set" p2) [e] [] q2] [] q1) (zcm X.K t):=by
  intro pins s σ H Q I h;refine wpAny_Call_Name_kw (vi I hgL hmL yd ?_);refine PyProof.Rows.callWith_builtin1 ?_ he2 rfl;rw[he2]
  show wpAny _ _ (spliced ((false,eval (.Call (.Name "set" p2) [e] [] q2) X.env)::backTo q1 (starEach [] X.env))) _ _ s
  refine Calls.spliced_cons ?_;refine wpAny_Call_Name_kw (vi I hgR hmR bt_set ?_);refine PyProof.Rows.callWith_type1 (thn (ha q2 pins s σ H _ I h) fun us s1 ⟨vs,H1,I1,r1,q⟩ => ?_) he rfl;obtain⟨p,zs,rfl,hq,hz,q⟩:=q;obtain⟨u,rfl,rx⟩:=Vals.one r1;cases rx;obtain⟨its,rv,pl,_⟩:=I1.list hq;have hlen:its.length=zs.length:=by have:=rv.length;rw[Za]at this;exact this.symm
  refine ae (val:=fun i=>zs.getD i ⟨#[]⟩) (I1.ok.hd hc) pl.isList (fun i v hv=>zib rv i v (by simpa using hv)) (by rw[Zr,hlen];exact YC (Xa hz) (by decide)) fun h' tk hd => ?_
  refine Calls.spliced_nil ?_;obtain⟨hS,kp⟩:=hd;rw[show its.toArray.size=zs.length by rw[Zr,hlen]]at hS;have I2:Inv X pins σ H1 { s1 with heap:=h',toks:=tk }:=I1.kept fun b o e=>kp b o (Heap.lt_size e) e
  obtain⟨o,es,ep,t,ho,ex,hd,_,_,hz2,hf,hn⟩:=hS;have h3:((es.size:Nat):Int)<2^63:=by unfold scanBound at hz2;omega
  refine call_len_set ho ex hd hf h3 ⟨.int es.size,H1,I2.tok _,⟨_,rfl⟩,?_⟩;rw[hn];exact q
def rLeS(x y:V)(H:Hp)(Q:VK):Prop:=∃i j,x=.str i/\y=.str j/\Q (.bl (!decide (j.cps.toList<i.cps.toList))) H
theorem e_leS{x y:V}{H:Hp}{Q:VK}:rLeS x y H Q=∃i j,x=.str i/\y=.str j/\Q (.bl (!decide (j.cps.toList<i.cps.toList))) H:=rfl
theorem zfw:OpR X (compareOp .LtE) rLeS:=by
  intro pins s σ H x y v u Q I rx ry h;obtain⟨i,j,rfl,rfl,q⟩:=h;obtain⟨t,rfl⟩:=rx;obtain⟨t',rfl⟩:=ry;exact PySem.P.le_str (yj I q rfl)
end
section
variable{σ:St}{k:Nat}{g:TG}{tt:TT}{te:TE}{H1:Hp}{Fin:List V->Hp->Prop}
theorem zij{z:Str}(Pv:Nat->List V->Hp->Prop)(h0:Pv 0 [] H1)(hz:∀i ys H,i<=z.cps.size->Pv i ys H->ys.length<=sizeLine)
    (hs:∀i c ys H,z.cps[i]? = some c->Pv i ys H->g (.str (chr1 c)) (List.replicate k none++σ) H fun σ2 H2=>σ2.drop k=σ/\tt σ2 H2 fun b H3=>if b=true then te σ2 H3 fun v H4=>Pv (i+1) (ys++[v]) H4 else Pv (i+1) ys H3)
    (hd:∀ys H,Pv z.cps.size ys H->Fin ys H):sw (Itw z) σ k g tt te H1 Fin:=by
  refine⟨fun i m ys H=>m=z.cps.size-i/\i<=z.cps.size/\Pv i ys H,⟨z.cps.size,by simp,ZE _,h0⟩,?_⟩
  rintro i m ys H ⟨rfl,hi,p⟩
  refine⟨hz i ys H hi p,?_⟩
  by_cases hlt:i<z.cps.size
  . refine .inr ⟨hlt,Pv (i+1),fun ys' H' p'=>⟨z.cps.size-(i+1),by omega,rfl,hlt,p'⟩,fun x H' y => ?_⟩
    obtain⟨e,c,e2,y⟩:=y;subst e y;exact hs i c ys _ e2 p
  . have e:i=z.cps.size:=by omega
    subst e;exact .inl ⟨Zm _,hd ys H p⟩
end
def intE:Expr->Option Int
  | .Constant (.int i) _ _=>some i
  | _=>none
def al:List Expr->Option (List Int)
  | []=>some []
  | e::es=>(intE e).bind fun i=>(al es).map fun is=>i::is
def io:List Int->List V
  | []=>[]
  | i::is=>.int i::io is
theorem e_vI0:io []=[]:=rfl
theorem e_vI{i:Int}{is:List Int}:io (i::is)=.int i::io is:=rfl
def tInts(ns:List Int):TA:=fun _ H Q=>Q (io ns) H
theorem e_ints{ns:List Int}{σ:St}{H:Hp}{Q:List V->Hp->Prop}:tInts ns σ H Q=Q (io ns) H:=rfl
theorem zcn{X:Cx}:∀{es:List Expr} {ns:List Int},al es=some ns->PA X es (tInts ns)
  | [],ns,h=>by
    cases h;exact zb
  | e::es,ns,h=>by
    unfold al at h
    cases e with
    | Constant c j p =>
      cases c with
      | int i =>
        cases e2:al es with
        | none=>rw[e2]at h;cases h
        | some is =>
          rw[e2]at h;cases h;exact za zd (zcn e2)
      | _=>cases h
    | _=>cases h
end L2
namespace L2
open PySem PySem.Spec PyProof.Rows
section
variable{X:Cx}
def rIsB(x y:V)(H:Hp)(Q:VK):Prop:=∃b c,x=.bl b/\y=.bl c/\Q (.bl (b==c)) H
theorem e_isB{x y:V}{H:Hp}{Q:VK}:rIsB x y H Q=∃b c,x=.bl b/\y=.bl c/\Q (.bl (b==c)) H:=rfl
end
end L2
namespace L2
open PySem PySem.Spec PyProof.Rows
theorem zc2{α:Type}{l:List α}{k:Nat}{x:α}(h:l[k]? = some x):l.drop k=x::l.drop (k+1):=by
  obtain⟨hk,e⟩:=Zc.mp h;rw[List.drop_eq_getElem_cons hk,e]
theorem uw{X:Cx}{body:List Stmt}{k:Nat}{st:Stmt}{t ts:TS}(hs:PS X st t)(h:body[k]? = some st)(hr:PSs X (body.drop (k+1)) ts):PSs X (body.drop k) (tSeq t ts):=by
  rw[zc2 h];exact zj hs hr
theorem zjn{X:Cx}{body:List Stmt}{k:Nat}{st:Stmt}{t:TS}(hs:PS X st t)(h:body[k]? = some st)(hl:body[k+1]? = none):PSs X (body.drop k) t:=by
  rw[zc2 h,List.drop_eq_nil_of_le (List.getElem?_eq_none_iff.mp hl)];exact zi hs
theorem zj5{X:Cx}{body:List Stmt}{t:TS}(h:PSs X (body.drop 0) t):PSs X body t:=h
end L2
namespace L2
open PySem PySem.Spec PyProof.Rows
section
variable{prog:Program}{w:World}{A:Around}{E:Value->Shared->Prop}{s:Shared}
theorem zh9{t b:Addr}{vs ws:List Value}{Q:Value->Shared->Prop}(ht:IsTup s.heap t vs.toArray)(hb:IsTup s.heap b ws.toArray)(hv:vs=[])(h0:Q (.ref b) s) :
    wpAny (model prog w) A (binaryOp .Add (.ref t) (.ref b)) Q E s:=by
  obtain⟨⟨cls,dd,data,sl⟩,ho,hc,n,hd⟩:=id ht;obtain⟨⟨cls2,dd2,data2,sl2⟩,ho2,hc2,n2,hd2⟩:=id hb;simp only at hc hd hc2 hd2;subst hc hd hc2 hd2
  exact concat_meets ⟨_,ho,rfl⟩ ⟨_,ho2,rfl⟩ noFill_tuple_add seq_tuple_add PySem.F.slot_tuple_add PySem.F.entry_tuple_add (PySem.F.args_tuple_add_2 _ _)
    (tuple_addW0 t b vs.toArray ws.toArray n n2 dd dd2 sl sl2 (by simp[hv])) ⟨ho,ho2,h0⟩
end
theorem zbj{H:Hp}{a:Addr}{o:HO}(n:H a=none):Same H (upd H a o):=fun b u e=>by
  rw[zp (fun z=>by rw[z,n]at e;cases e)];exact e
section
variable{X:Cx}
def rCatH:R2:=fun x y H Q=>∃a b xs ys,x=.ref a/\y=.ref b/\H a=some (.tup xs)/\H b=some (.tup ys)/\xs.length+ys.length<=sizeLine/\∀H' p,Same H H'->H' p=some (.tup (xs++ys))->Q (.ref p) H'
theorem e_catH{x y:V}{H:Hp}{Q:VK}:rCatH x y H Q=∃a b xs ys,x=.ref a/\y=.ref b/\H a=some (.tup xs)/\H b=some (.tup ys)/\xs.length+ys.length<=sizeLine/\∀H' p,Same H H'->H' p=some (.tup (xs++ys))->Q (.ref p) H':=rfl
theorem uj:OpR X (binaryOp .Add) rCatH:=by
  intro pins s σ H x y v u Q I rx ry h;obtain⟨a,b,xs,ys,rfl,rfl,ha,hb,hz,q⟩:=h
  by_cases e1:xs=[]
  . subst e1
    cases rx;cases ry;obtain⟨its,r1,p1,_⟩:=I.tuple (SqT.of ha);obtain⟨its2,r2,p2,_⟩:=I.tuple (SqT.of hb);exact zh9 p1 p2 (r1.nil_iff.mpr rfl) ⟨.ref b,H,I,rfl,q H b (Same.refl _) hb⟩
  . refine zjm pins s σ H (.ref a) (.ref b) v u Q I rx ry ⟨a,b,xs,ys,rfl,rfl,.of ha,.of hb,e1,hz,fun e2 => ?_,fun e2 p hp => ?_⟩
    . subst e2
      exact q H a (Same.refl _) (by rw[ha,Yg])
    . exact q _ p (zbj hp) zc
theorem zh3{x:V}{vs:List V}{H:Hp}{Q:VK}:zdr x vs H Q=∃l b xs zs,x=.ref l/\vs=[.ref b]/\H l=some (.lst xs)/\H b=some (.lst zs)/\xs.length+zs.length<=sizeLine/\Q .non (upd H l (.lst (xs++zs))):=rfl
end
section
open HT
variable{prog:Program}{w:World}{A:Around}{E:Value->Shared->Prop}{s:Shared}
theorem i7{t sl:Addr}{items:Array Value}{vl vu:Value}{lo hi:Option Int}{Q:Value->Shared->Prop}(ht:IsTup s.heap t items)(hs:s.heap.IsSliceOf sl vl vu .none)(pl:IsPart vl lo)(pu:IsPart vu hi)
    (hw:sIx items.size 0 lo=0/\sIx items.size items.size hi=items.size) (h:Q (.ref t) s):wpAny (model prog w) A (getItem (.ref t) (.ref sl)) Q E s:=by
  obtain⟨os,hos,hcs,hds⟩:=id hs;have hTs:s.TypeIs (.ref sl) "slice" := ⟨os,hos,hcs⟩;unfold getItem
  try with_reducible refine wpAny_holding ?_
  first | refine wpAny_bind (wpAny_pure ?_) | skip
  refine wpAny_bind (wpAny_sequenceKey ht.typeIs (by decide) ?_)
  refine wpAny_bind (wpAny_callSpecial?_slot (name:=Str.ofString "__getitem__") ht.typeIs PyProof.Rows.slot_tuple_getitem
    (wpAny_call_entry PyProof.Rows.slot_tuple_getitem ht.typeIs entry_tuple_getitem ?_ (args_tuple_getitem _ _)))
  show wpAny _ _ (Builtin.Tuple.tupleItemsOf (.ref t) >>= _) _ _ s
  refine wpAny_bind (tupleItemsOf_ ht ?_);refine wpAny_bind (wpAny_typeOf hTs ?_);rw[if_pos (by decide)];refine wpAny_bind (nq hs pl pu ?_)
  have hyes:(((sIx items.size 0 lo:Nat):Int)==0&&(1:Int)==1&&(sIx items.size items.size hi-sIx items.size 0 lo)==items.size)=true:=by
    rw[hw.1,hw.2];simp
  show wpAny _ _ (if (((sIx items.size 0 lo:Nat):Int)==0&&(1:Int)==1&&(sIx items.size items.size hi-sIx items.size 0 lo)==items.size)=true then _ else _) _ _ s
  rw[if_pos hyes];unfold Builtin.Tuple.tupleIsExact;refine wpAny_bind (wpAny_bind (wpAny_typeOf ht.typeIs (wpAny_pure ?_)));rw[if_pos (by decide)];exact wpAny_bind (wpAny_rule (wpAny_pure ⟨_,rfl,wpAny_pure h⟩))
end
section
variable{X:Cx}
def rSlH:V->Option Int->Option Int->Hp->VK->Prop:=fun x lo hi H Q=>∃a xs,x=.ref a/\H a=some (.tup xs)/\∀H' p,Same H H'->H' p=some (.tup (cutV xs lo hi))->Q (.ref p) H'
theorem e_slH{x:V}{lo hi:Option Int}{H:Hp}{Q:VK}:rSlH x lo hi H Q=∃a xs,x=.ref a/\H a=some (.tup xs)/\∀H' p,Same H H'->H' p=some (.tup (cutV xs lo hi))->Q (.ref p) H':=rfl
theorem o6:SlR X rSlH:=by
  intro pins s σ H x v vl vu lo hi sl Q I rx hs pl pu h;obtain⟨a,xs,rfl,hx,q⟩:=h
  by_cases hw:HT.sIx xs.length 0 lo=0/\HT.sIx xs.length xs.length hi=xs.length
  . cases rx
    obtain⟨its,r,ht,hz⟩:=I.tuple (SqT.of hx);have hlen:its.toArray.size=xs.length:=by rw[Zr];exact r.length.symm
    refine⟨"tuple", _,PyProof.Rows.slot_tuple_getitem.lookup,ht.typeIs,?_⟩;refine i7 ht hs pl pu (by rw[hlen];exact hw) ⟨.ref a,H,I,rfl,q H a (Same.refl _) ?_⟩;rw[hx];unfold cutV;rw[hw.1,hw.2];simp
  . exact zbb pins s σ H _ v vl vu lo hi sl Q I rx hs pl pu ⟨a,xs,rfl,.of hx,hw,fun p hp=>q _ p (zbj hp) zc⟩
theorem e_slT{K:Fg}{x:V}{lo hi:Option Int}{H:Hp}{Q:VK}:rSlT K x lo hi H Q=∃a xs,x=.ref a/\SqT K H a xs/\¬(HT.sIx xs.length 0 lo=0/\HT.sIx xs.length xs.length hi=xs.length)/\∀p,H p=none->Q (.ref p) (upd H p (.tup (cutV xs lo hi))):=rfl
theorem o7{xs:List V}{k:Nat}(h:k<=xs.length):cutV xs none (some (k:Int))=xs.take k:=by
  unfold cutV;rw[HT.sIx_none,HT.sIx_nat];simp[YS h]
theorem tq{xs:List V}{k:Nat}(h:k<=xs.length):cutV xs (some (k:Int)) none=xs.drop k:=by
  unfold cutV;rw[HT.sIx_none,HT.sIx_nat,YS h];exact ZG (by rw[ZP];omega)
end
end L2
namespace L2
open PySem PySem.Spec PyProof.Rows
section
variable{σ:St}{k:Nat}{g:TG}{tt:TT}{te:TE}{H1:Hp}{Fin:List V->Hp->Prop}
theorem zgy{K:Fg}{a:Addr}{xs:List V}(Pv:Nat->List V->Hp->Prop)(h0:Pv 0 [] H1)(hz:∀i ys H,i<=xs.length->Pv i ys H->ys.length<=sizeLine/\SqL K H a xs)
    (hs:∀i x ys H T,xs[i]? = some x->H T=none->Pv i ys H->g (.ref T) (List.replicate k none++σ) (upd H T (.tup [.int i,x])) fun σ2 H2=>σ2.drop k=σ/\tt σ2 H2 fun b H3=>if b=true then te σ2 H3 fun v H4=>Pv (i+1) (ys++[v]) H4 else Pv (i+1) ys H3)
    (hd:∀ys H,Pv xs.length ys H->Fin ys H):sw (Ite K a) σ k g tt te H1 Fin:=by
  refine⟨fun i m ys H=>m=xs.length-i/\i<=xs.length/\Pv i ys H,⟨xs.length,by simp,ZE _,h0⟩,?_⟩
  rintro i m ys H ⟨rfl,hi,p⟩
  obtain⟨q0,qa⟩:=hz i ys H hi p;refine⟨q0,?_⟩
  by_cases hlt:i<xs.length
  . refine .inr ⟨⟨xs,xs[i],qa,by simp[hlt]⟩,Pv (i+1),fun ys' H' p'=>⟨xs.length-(i+1),by omega,rfl,hlt,p'⟩,fun x H' y => ?_⟩
    obtain⟨T,x',rfl,hT,rfl,hy⟩:=y;exact hs i x' ys _ T (hy xs qa) hT p
  . have e:i=xs.length:=by omega
    subst e;exact .inl ⟨⟨xs,qa,Zm _⟩,hd ys H p⟩
end
end L2
namespace L2
open PySem PySem.Spec PyProof.Rows
theorem ag(l:Addr)(items:Array Value)(n:Nat)(dd:Option Addr)(sl:Array (Option Value))(x:Value)(e:Value->Bool)(j:Nat)(hj:j<items.size)
    (hit:e items[j]=true) (hno:∀m (hm:m<items.size),m<j->e items[m]=false) :
    Meets (Builtin.«tuple.index» ⟨[.ref l,x],[]⟩)
      (fun A R s=>s.heap.get? l=some { cls:=.type "tuple", dict:=dd,data:=.seq items n,slots:=sl }/\(∀y,y∈items->SeqAt.EqAt A.in1 s y x (e y))/\R (.ok (.ret (.int j s.toks))) { s with toks:=s.toks+1 }) :=
  .of_wp fun prog w A R s h=>by
    obtain⟨hp,g,d,tk,os⟩:=s;obtain⟨hl,he,h⟩:=h
    wp_walk using AutoSeq1.wpAny_loadPart' hl
    show wpAny (model prog w) A.in1 (forIn [:min items.size items.size] ((none,()):Option PySem.Fin×Unit) fun(i:Nat) _=>(match items[i]? with
      | some y=>do
        let __do_lift <-eqBool y x
        if __do_lift=true then do
            let __do_lift <-retInt (i:Int)
            pure (ForInStep.done (some __do_lift,()))
          else pure (ForInStep.yield (none,()))
      | _=>pure (ForInStep.yield (none,())):Sem (ForInStep (Option PySem.Fin×Unit)))) _ _ _
    rw[Std.Legacy.Range.forIn_eq_forIn_range'];refine wpAny_forIn_list _ (fun rest b s'=>b=(none,())/\s'=(⟨hp,g,d,tk,os⟩:Shared)/\∃i,i<=j/\rest=List.range' i (items.size-i)) _ ?turn ?fin _ _ ⟨rfl,rfl,0,ZE _,by simp[Std.Legacy.Range.size]⟩
    case turn =>
      rintro k rest b s' ⟨rfl,rfl,i,hi,er⟩
      have hlt:i<items.size:=by omega
      rw[show items.size-i=(items.size-(i+1))+1 by omega,List.range'_succ]at er
      injection er with e1 e2
      subst e1;have ei:items[k]? = some items[k]:=by simp[hlt]
      rw[ei];refine wpAny_bind (he _ (Array.getElem_mem hlt) prog w _ _ ?_)
      by_cases hk:k=j
      . subst hk
        rw[hit,if_pos rfl];refine wpAny_bind ?_;unfold retInt
        wp_walk
        exact⟨_,rfl,h⟩
      . rw[hno k hlt (by omega)]
        wp_walk
        exact⟨rfl,rfl,k+1,by omega,e2⟩
    case fin =>
      rintro b s' ⟨rfl,rfl,i,hi,er⟩
      have:(List.range' i (items.size-i)).length=0:=by rw[<-er];rfl
      rw[List.length_range']at this;omega
section
variable{X:Cx}
structure FirstAt(xs:List V)(y:V)(j:Nat):Prop where
  flat:wv y=true
  flats:xs.all wv=true
  hit:∃z,xs[j]? = some z/\eqV z y=true
  no:∀(m:Nat) (z:V),m<j->xs[m]? = some z->eqV z y=false
theorem FirstAt.lt{xs:List V}{y:V}{j:Nat}(h:FirstAt xs y j):j<xs.length:=by
  obtain⟨z,e,_⟩:=h.hit;exact(Zc.mp e).1
theorem e8{xs:List V}{us:List Value}{y z:V}{m:Nat}(r:Vals xs us)(fs:xs.all wv=true)(e:xs[m]? = some z)(hm:m<us.toArray.size):eqU y us.toArray[m]=eqV z y:=by
  obtain⟨w,hw,rw'⟩:=r.get e
  have:us.toArray[m]=w:=by
    have h2:=(Zc.mp hw).2
    simpa using h2
  rw[this];exact zat rw' (ZT.mp fs _ (Zi e))
def zdg(K:Fg):V->List V->Hp->VK->Prop:=fun x vs H Q=>∃p xs y j,x=.ref p/\vs=[y]/\SqT K H p xs/\FirstAt xs y j/\Q (.int (j:Nat)) H
def zdw(K:Fg):V->List V->Hp->VK->Prop:=fun x vs H Q=>∃p xs y j,x=.ref p/\vs=[y]/\SqL K H p xs/\FirstAt xs y j/\Q (.int (j:Nat)) H
theorem ziq{K:Fg}{x:V}{vs:List V}{H:Hp}{Q:VK}:zdg K x vs H Q=∃p xs y j,x=.ref p/\vs=[y]/\SqT K H p xs/\FirstAt xs y j/\Q (.int (j:Nat)) H:=rfl
theorem zit{K:Fg}{x:V}{vs:List V}{H:Hp}{Q:VK}:zdw K x vs H Q=∃p xs y j,x=.ref p/\vs=[y]/\SqL K H p xs/\FirstAt xs y j/\Q (.int (j:Nat)) H:=rfl
theorem bb:MtR X "tuple.index" (zdg X.K):=by
  intro pins s σ H x vs v us Q I rx rvs h;obtain⟨p,xs,y,j,rfl,rfl,hq,hF,q⟩:=h;cases rx;obtain⟨u,rfl,ru⟩:=re rvs;obtain⟨its,r,pl,hz⟩:=I.tuple hq;obtain⟨⟨cls,dd,data,sl⟩,ho,hc,n,hd⟩:=id pl;simp only at hc hd;subst hc hd;have hl:=r.length;have hjl:j<its.toArray.size:=by rw[Zr,<-hl];exact hF.lt
  obtain⟨z,e,hit⟩:=hF.hit;refine call_meets PySem.F.slot_tuple_index ⟨_,ho,rfl⟩ PySem.F.entry_tuple_index (PySem.F.args_tuple_index_2 _ _) (ag p its.toArray n dd sl u (eqU y) j hjl ?_ ?_) ⟨ho,fun w hw=>md ru hF.flat r hF.flats w (by simpa using hw),⟨.int j,H,I.tok _,⟨_,rfl⟩,q⟩⟩
  . rw[e8 r hF.flats e];exact hit
  . intro m hm hmj
    have hml:m<xs.length:=by rw[hl];simpa using hm
    rw[e8 r hF.flats (Zb hml)];exact hF.no m _ hmj (Zb hml)
theorem zf9:MtR X "list.index" (zdw X.K):=by
  intro pins s σ H x vs v us Q I rx rvs h;obtain⟨p,xs,y,j,rfl,rfl,hq,hF,q⟩:=h;cases rx;obtain⟨u,rfl,ru⟩:=re rvs;obtain⟨its,r,pl,hz⟩:=I.list hq;obtain⟨⟨cls,dd,data,sl⟩,ho,hc,n,hd⟩:=id pl.isList;simp only at hc hd;subst hc hd;have hl:=r.length;have hjl:j<its.toArray.size:=by rw[Zr,<-hl];exact hF.lt
  have hn:=nv;obtain⟨z,e,hit⟩:=hF.hit;refine call_meets PySem.F.slot_list_index ⟨_,ho,rfl⟩ PySem.F.entry_list_index (PySem.F.args_list_index_2 _ _) (SeqAt.list_indexAt p its.toArray n dd sl u (eqU y) j hjl (by have:=hF.lt;omega) ?_ ?_) ⟨ho,fun w hw=>md ru hF.flat r hF.flats w (by simpa using hw),⟨.int j,H,I.tok _,⟨_,rfl⟩,q⟩⟩
  . rw[e8 r hF.flats e];exact hit
  . intro m hm hmj
    have hml:m<xs.length:=by rw[hl];simpa using hm
    rw[e8 r hF.flats (Zb hml)];exact hF.no m _ hmj (Zb hml)
end
section
variable{X:Cx}
theorem hu10{A:Around}{k:Nat}(hr:Room k A):A.units+1<cLine:=by have:=hu9 hr;omega
def rInK(neg:Bool):R2:=fun y x H Q=>∃a o,x=.ref a/\DGet H a y o/\Q (.bl (neg ^^ o.isSome)) H
theorem e_inK{neg:Bool}{y x:V}{H:Hp}{Q:VK}:rInK neg y x H Q=∃a o,x=.ref a/\DGet H a y o/\Q (.bl (neg ^^ o.isSome)) H:=rfl
theorem op_inK(hu:X.A.units+1<cLine):OpR X (compareOp .In) (rInK false):=by
  intro pins s σ H x y v u Q I rx ry h;obtain⟨a,o,rfl,g,q⟩:=h;cases ry;exact d_in hu I g rx fun s3 I3=>⟨.bl o.isSome,H,I3,rfl,by simpa using q⟩
def rSetD:TSet:=fun o i v H Q=>∃a H',o=.ref a/\DPut H a i v H'/\Q H'
theorem e_setD{o i v:V}{H:Hp}{Q:Hp->Prop}:rSetD o i v H Q=∃a H',o=.ref a/\DPut H a i v H'/\Q H':=rfl
theorem fg(hu:X.A.units+1<cLine):PSet X rSetD:=by
  intro pins s σ H o i v ov iv u Q I ro ri rv h;obtain⟨a,H',rfl,g,q⟩:=h;cases ro;exact zfu hu I g ri rv fun s4 I4=>⟨H',I4,q⟩
theorem zjz{σ:St}{H:Hp}{Q:VK}:zga σ H Q=∀p,H p=none->Q (.ref p) (upd H p (.dT [])):=rfl
theorem e_dget{td ty:TE}{σ:St}{H:Hp}{Q:VK}:tDGet td ty σ H Q=td σ H fun x H1=>ty σ H1 fun y H2=>∃a v,x=.ref a/\DGet H2 a y (some v)/\Q v H2:=rfl
theorem ah{prog:Program}{w:World}(d:Addr)(hd:(d==sysModules)=false) :
    MeetsIn prog w (Builtin.«dict.__len__» ⟨[.ref d],[]⟩) (fun _ R s=>∃o es ep,s.heap.get? d=some o/\o.data=.dict es ep/\R (.ok (.ret (.int es.size s.toks))) { s with toks:=s.toks+1 }) :=
  .of_wp fun A R s ⟨o,es,ep,ho,hdat,h⟩=>by
    show wpAny _ _ (dictSize d >>= _) _ _ s
    unfold dictSize;refine wpAny_bind (wpAny_bind (wpAny_dictEntries ho hdat (wpAny_pure ?_)))
    show wpAny _ _ (Builtin.Dict.pendingCount d >>= _) _ _ s
    refine wpAny_bind (wpAny_pendingCount_other hd ?_);refine wpAny_ret_mkInt ?_;rw[Nat.add_zero];exact h
theorem zi9 {prog:Program} {w:World} {A:Around} {E:Value->Shared->Prop} {s:Shared} {d:Addr} {o:Obj} {es:Array DictEntry} {ep:Nat} {Q:Value->Shared->Prop} (hd:(d==sysModules)=false) (ht:s.TypeIs (.ref d) "dict") (ho:s.heap.get? d=some o) (hdat:o.data=.dict es ep) (hfit:(es.size:Int)<2^63)
    (h:Q (.int es.size (s.toks+1)) { s with toks:=s.toks+1+1 }):wpAny (model prog w) A (call (.builtin "len") [.ref d]) Q E s:=by
  refine Calls.call_function_entry kind_len plain_len entry_len (args_len1 _) ?_;unfold Builtin.«len»;refine wpAny_bind (m:=oneArg "len" _) (wpAny_pure ?_)
  refine wpAny_bind (m:=callSpecial? (.ref d) (Str.ofString "__len__")) (wpAny_callSpecial?_slot (name:=Str.ofString "__len__") ht PySem.F.slot_dict_len
    (call_meetsIn PySem.F.slot_dict_len ht PySem.F.entry_dict_len (PySem.F.args_dict_len_1 _) (ah d hd) ⟨o,es,ep,ho,hdat,?_⟩))
  show wpAny _ _ _ _ _ { s with toks:=s.toks+1 }
  refine wpAny_bind (wpAny_holding (wpAny_pure ?_));refine wpAny_bind (wpAny_letGo ?_)
  show wpAny _ _ (if ((es.size:Nat):Int)<0 then _ else _) _ _ _
  rw[if_neg (by omega)]
  show wpAny _ _ (if ((es.size:Nat):Int) ≥ 2^63 then _ else _) _ _ _
  rw[if_neg (by omega)];exact wpAny_bind (wpAny_mkInt (wpAny_pure ⟨_,rfl,h⟩))
theorem zgo:CallR X (.builtin "len") (fun xs H Q=>∃a kvs,xs=[V.ref a]/\H a=some (.dT kvs)/\Q (.int kvs.length) H):=by
  intro pins s σ H xs us Q I r h;obtain⟨a,kvs,rfl,ha,q⟩:=h;obtain⟨u,rfl,ru⟩:=re r;cases ru;obtain⟨z,hd,ys,rel,dd⟩:=dt_of I.hok ha;have ht:=dd.typeIs (s:=s);obtain⟨o,es,ep,ho,hc,hdat,he,_⟩:=id dd
  have hl:es.size=kvs.length:=by
    rw[size_of_entries he];exact(Paired.length rel).symm
  have hn:=nv;refine zi9 hd ht ho hdat (by omega) ?_;rw[hl];exact⟨.int kvs.length,H,I.tok _,⟨_,rfl⟩,q⟩
end
end L2
namespace L2
open PySem PySem.Spec PyProof.Rows
section
variable{X:Cx}
def tBMT(r:V->List V->Hp->VK->Prop)(to:TE)(t:TA):TE:=fun σ H Q=>to σ H fun x H1=>(∃p xs,x=.ref p/\Rd H1 p (.tup xs))/\t σ H1 fun xs H2=>r x xs H2 Q
theorem e_BMT{r:V->List V->Hp->VK->Prop}{to:TE}{t:TA}{σ:St}{H:Hp}{Q:VK}:tBMT r to t σ H Q=to σ H fun x H1=>(∃p xs,x=.ref p/\Rd H1 p (.tup xs))/\t σ H1 fun xs H2=>r x xs H2 Q:=rfl
theorem zgs {o e:Expr} {es:List Expr} {to:TE} {t:TA} {name:Str} {apos cpos:Pos} {id:String} {r:V->List V->Hp->VK->Prop} (pa:PlainAttrs "tuple") (slot:Slot "tuple" name id) (hty:typeOf (.builtin id)=pure (.type "method_descriptor")) (hm:MtR X id r) (ho:PE X o to) (ha:PA X (e::es) t)
    (hbase:attributeBase o name X.env (eval o X.env)=eval o X.env:=by rfl)
    (hfew:((backTo cpos (starEach (e::es) X.env)).all (fun x => !x.1)&&(backToKw cpos (keywordEach [] X.env)).all (fun x=>x.1.isSome)
      && decide ((e::es).length+([]:List Keyword).length+(if ([]:List Keyword).isEmpty then 0 else 1)<30))=true:=by rfl)
    (hline:(apos.endLine==cpos.line)=true:=by rfl) (hs:starEach (e::es) X.env=(false,eval e X.env)::starEach es X.env:=by rfl) (hplain:(backTo cpos (starEach es X.env)).any (·.1)=false:=by rfl) :
    PE X (.Call (.Attribute o name apos) (e::es) [] cpos) (tBMT r to t):=by
  intro pins s σ H Q I h;refine wpAny_Call_method_late hbase hfew hline rfl (thn (ho pins s σ H _ I h) fun v s1 ⟨x,H1,I1,r1,⟨p,ys,ex,hp⟩,q1⟩ => ?_);subst ex;obtain rfl:v=Value.ref p:=r1;obtain⟨z,its,rr,ob,e1,c1,n1,d1,f1⟩:=(show ObjOk X.prog X.w H1 s1.heap p (.tup ys) from hp.ok I1.hok);have h1:s1.TypeIs (.ref p) "tuple" := ⟨ob,e1,c1⟩
  have h2:∀a,Value.ref p=.ref a->∃ob,s1.heap.get? a=some ob/\ob.dict=none:=fun a e=>by
    cases e;exact⟨ob,e1,f1⟩
  refine⟨"tuple", id,pa,slot,hty,h1,h2,?_⟩;have hA:=ha cpos pins s1 σ H1 _ I1 q1;rw[hs]at hA ⊢;refine Calls.callWith_builtin (by show(false||(backTo cpos (starEach es X.env)).any (·.1))=false;rw[hplain] <;> rfl) (Calls.evalArgs_plain ?_);exact thn hA fun us s2 ⟨vs,H2,I2,r2,q2⟩=>hm pins s2 σ H2 (.ref p) vs (.ref p) us Q I2 rfl r2 q2
end
end L2
namespace L2
open PySem PySem.Spec PyProof.Rows
theorem zc0{i:Int}{n:Nat}(h1 : -(2^n)<i)(h2:i<2^n):Builtin.Int.intBits i<=n:=by
  unfold Builtin.Int.intBits
  split
  . exact ZE _
  . rename_i h
    have h0:i≠0:=fun e=>h (by rw[e];rfl)
    have hn:i.natAbs<2^n:=by
      have e:((2^n:Nat):Int)=(2:Int)^n:=by rw[Int.natCast_pow];rfl
      have:(i.natAbs:Int)<((2^n:Nat):Int):=by rw[e];omega
      exact_mod_cast this
    exact(Nat.log2_lt (by omega)).mpr hn
def CMulB(i j:Int):Prop:=(-(10^60)<=i/\i<=10^60) /\ -(10^60)<=j/\j<=10^60
theorem CMulB.ok{i j:Int}(h:CMulB i j):IntMulOk i j:=by
  have e:(10:Int)^60<2^200:=by decide
  obtain⟨⟨a,b⟩,c,d⟩:=h;exact .of_bits (Zd (zc0 (n:=200) (by omega) (by omega)) (by decide)) (Zd (zc0 (n:=200) (by omega) (by omega)) (by decide))
end L2
namespace L2
open PySem
def SeqH(h:Heap)(l:Addr)(xs:Array Value):Prop:=∃o n,h.get? l=some o/\o.data=.seq xs n
section
variable{prog:Program}{w:World}{A:Around}{E:Value->Shared->Prop}{s:Shared}
theorem i9{it t:Addr}{i:Nat}{items:Array Value}{x:Value}{Q:Value->Shared->Prop}(hit:s.heap.IsTupleIter it t i)
    (ht:SeqH s.heap t items) (hx:items[i]? = some x) (hQ:∀h',h'.IsTupleIter it t (i+1)->Heap.SameBut it s.heap h'->Q x { s with heap:=h' }) :
    wpAny (model prog w) A (Builtin.SmallTypes.nextOf (.ref it)) Q E s:=by
  obtain⟨o,ho,hc,hd⟩:=id hit;obtain⟨ol,nl,hol,hdl⟩:=ht;unfold Builtin.SmallTypes.nextOf
  refine wpAny_bind (wpAny_callSpecial?_slot (name:=Str.ofString "__next__") hit.typeIs F.slot_tuple_iterator_next
    (wpAny_call_entry F.slot_tuple_iterator_next hit.typeIs F.entry_tuple_iterator_next ?_ (F.args_tuple_iterator_next_1 _)))
  show wpAny _ _ (field (.ref it) 0 >>= _) _ _ s
  refine wpAny_bind (wpAny_field ho hd (x:=.ref t) rfl ?_)
  show wpAny _ _ (if (Value.ref t==Value.none)=true then _ else _) _ _ s
  rw[if_neg (show ¬((Value.ref t==Value.none)=true) from Bool.false_ne_true)]
  show wpAny _ _ (field (.ref it) 1 >>= _) _ _ s
  refine wpAny_bind (wpAny_field ho hd (x:=.int i 0) rfl ?_)
  show wpAny _ _ (seqItems? (.ref t) >>= _) _ _ s
  refine wpAny_bind (wpAny_seqItems hol hdl ?_);simp only[Zw,hx];refine wpAny_bind (wpAny_setField ho hd (by simp) (wpAny_pure ⟨x,rfl,wpAny_pure (hQ _ ?_ (Heap.SameBut.update ..))⟩))
  exact⟨_,Heap.get?_update_self _ ho (Obj.isFreed_of_fields (Obj.data_mapFields hd _)),(Obj.cls_mapFields ..).trans hc,by
    rw[Obj.data_mapFields hd];simp[rawInt]⟩
theorem ff{it t:Addr}{i:Nat}{items:Array Value}{Q:Value->Shared->Prop}(hh:A.handled=none)
    (hit:s.heap.IsTupleIter it t i) (ht:SeqH s.heap t items) (hx:items[i]? = none)
    (hE:∀h' e,Heap.ExtBut it s.heap h'->(∃o,h'.get? e=some o/\o.cls=.type "StopIteration")->E (.ref e) { s with heap:=h' }) :
    wpAny (model prog w) A (Builtin.SmallTypes.nextOf (.ref it)) Q E s:=by
  obtain⟨o,ho,hc,hd⟩:=id hit;obtain⟨ol,nl,hol,hdl⟩:=ht;unfold Builtin.SmallTypes.nextOf
  refine wpAny_bind (wpAny_callSpecial?_slot (name:=Str.ofString "__next__") hit.typeIs F.slot_tuple_iterator_next
    (wpAny_call_entry F.slot_tuple_iterator_next hit.typeIs F.entry_tuple_iterator_next ?_ (F.args_tuple_iterator_next_1 _)))
  show wpAny _ _ (field (.ref it) 0 >>= _) _ _ s
  refine wpAny_bind (wpAny_field ho hd (x:=.ref t) rfl ?_)
  show wpAny _ _ (if (Value.ref t==Value.none)=true then _ else _) _ _ s
  rw[if_neg (show ¬((Value.ref t==Value.none)=true) from Bool.false_ne_true)]
  show wpAny _ _ (field (.ref it) 1 >>= _) _ _ s
  refine wpAny_bind (wpAny_field ho hd (x:=.int i 0) rfl ?_)
  show wpAny _ _ (seqItems? (.ref t) >>= _) _ _ s
  refine wpAny_bind (wpAny_seqItems hol hdl ?_);simp only[Zw,hx];refine wpAny_bind (wpAny_rule (wpAny_bind (wpAny_setField ho hd (by simp) ?_)))
  show wpAny _ _ (newExc (.type "StopIteration") [] >>= _) _ _ _
  refine wpAny_bind ?_;simp only[newExc,newTuple];refine wpAny_bind (wpAny_newObj_type ?_ (by size_fits));refine wpAny_bind (m:=firstArgMember _ _) (wpAny_of_eq (a:=Value.none) (by first | rfl | (simp only[firstArgMember];rfl)) ?_);refine wpAny_newObj_type ?_ (by size_fits);simp only[raiseNew];refine wpAny_bind (wpAny_handled ?_)
  first | rw[show A.in1.handled=none from hh] | rw[hh]
  refine wpAny_bind (wpAny_pure (wpAny_throw ?_));exact hE _ _ (((Heap.SameBut.update ..).extBut.push _).push _) ⟨_,Heap.get?_push_size _ rfl,rfl⟩
theorem i8{it t:Addr}{i:Nat}{items:Array Value}{x:Value}{Q:Value->Shared->Prop}(hit:s.heap.IsListIter it t i)
    (ht:SeqH s.heap t items) (hx:items[i]? = some x) (hQ:∀h',h'.IsListIter it t (i+1)->Heap.SameBut it s.heap h'->Q x { s with heap:=h' }) :
    wpAny (model prog w) A (Builtin.SmallTypes.nextOf (.ref it)) Q E s:=by
  obtain⟨o,ho,hc,hd⟩:=id hit;obtain⟨ol,nl,hol,hdl⟩:=ht;unfold Builtin.SmallTypes.nextOf
  refine wpAny_bind (wpAny_callSpecial?_slot (name:=Str.ofString "__next__") hit.typeIs slot_listiter_next
    (wpAny_call_entry slot_listiter_next hit.typeIs entry_listiter_next ?_ (args_listiter_next _)))
  show wpAny _ _ (field (.ref it) 0 >>= _) _ _ s
  refine wpAny_bind (wpAny_field ho hd (x:=.ref t) rfl ?_)
  show wpAny _ _ (if (Value.ref t==Value.none)=true then _ else _) _ _ s
  rw[if_neg (show ¬((Value.ref t==Value.none)=true) from Bool.false_ne_true)]
  show wpAny _ _ (field (.ref it) 1 >>= _) _ _ s
  refine wpAny_bind (wpAny_field ho hd (x:=.int i 0) rfl ?_)
  show wpAny _ _ (seqItems? (.ref t) >>= _) _ _ s
  refine wpAny_bind (wpAny_seqItems hol hdl ?_);simp only[Zw,hx];refine wpAny_bind (wpAny_setField ho hd (by simp) (wpAny_pure ⟨x,rfl,wpAny_pure (hQ _ ?_ (Heap.SameBut.update ..))⟩))
  exact⟨_,Heap.get?_update_self _ ho (Obj.isFreed_of_fields (Obj.data_mapFields hd _)),(Obj.cls_mapFields ..).trans hc,by
    rw[Obj.data_mapFields hd];simp[rawInt]⟩
theorem gu{it t:Addr}{i:Nat}{items:Array Value}{Q:Value->Shared->Prop}(hh:A.handled=none)
    (hit:s.heap.IsListIter it t i) (ht:SeqH s.heap t items) (hx:items[i]? = none)
    (hE:∀h' e,Heap.ExtBut it s.heap h'->(∃o,h'.get? e=some o/\o.cls=.type "StopIteration")->E (.ref e) { s with heap:=h' }) :
    wpAny (model prog w) A (Builtin.SmallTypes.nextOf (.ref it)) Q E s:=by
  obtain⟨o,ho,hc,hd⟩:=id hit;obtain⟨ol,nl,hol,hdl⟩:=ht;unfold Builtin.SmallTypes.nextOf
  refine wpAny_bind (wpAny_callSpecial?_slot (name:=Str.ofString "__next__") hit.typeIs slot_listiter_next
    (wpAny_call_entry slot_listiter_next hit.typeIs entry_listiter_next ?_ (args_listiter_next _)))
  show wpAny _ _ (field (.ref it) 0 >>= _) _ _ s
  refine wpAny_bind (wpAny_field ho hd (x:=.ref t) rfl ?_)
  show wpAny _ _ (if (Value.ref t==Value.none)=true then _ else _) _ _ s
  rw[if_neg (show ¬((Value.ref t==Value.none)=true) from Bool.false_ne_true)]
  show wpAny _ _ (field (.ref it) 1 >>= _) _ _ s
  refine wpAny_bind (wpAny_field ho hd (x:=.int i 0) rfl ?_)
  show wpAny _ _ (seqItems? (.ref t) >>= _) _ _ s
  refine wpAny_bind (wpAny_seqItems hol hdl ?_);simp only[Zw,hx];refine wpAny_bind (wpAny_rule (wpAny_bind (wpAny_setField ho hd (by simp) ?_)))
  show wpAny _ _ (newExc (.type "StopIteration") [] >>= _) _ _ _
  refine wpAny_bind ?_;simp only[newExc,newTuple];refine wpAny_bind (wpAny_newObj_type ?_ (by size_fits));refine wpAny_bind (m:=firstArgMember _ _) (wpAny_of_eq (a:=Value.none) (by first | rfl | (simp only[firstArgMember];rfl)) ?_);refine wpAny_newObj_type ?_ (by size_fits);simp only[raiseNew];refine wpAny_bind (wpAny_handled ?_)
  first | rw[show A.in1.handled=none from hh] | rw[hh]
  refine wpAny_bind (wpAny_pure (wpAny_throw ?_));exact hE _ _ (((Heap.SameBut.update ..).extBut.push _).push _) ⟨_,Heap.get?_push_size _ rfl,rfl⟩
end
structure Drw where
  it:Addr
  l:Addr
  xs:Array Value
def DrAt(h:Heap)(d:Drw)(k:Nat):Prop:=(h.IsListIter d.it d.l k\/h.IsTupleIter d.it d.l k)/\SeqH h d.l d.xs
theorem DrAt.ext{h h':Heap}{d:Drw}{k:Nat}(q:DrAt h d k)(h1:∀o,h.get? d.it=some o->h'.get? d.it=some o)(h2:∀o,h.get? d.l=some o->h'.get? d.l=some o):DrAt h' d k:=by
  obtain⟨a,o',n,e',r'⟩:=q;refine⟨?_,o',n,h2 o' e',r'⟩
  rcases a with ⟨o,e,r⟩ | ⟨o,e,r⟩
  . exact .inl ⟨o,h1 o e,r⟩
  . exact .inr ⟨o,h1 o e,r⟩
theorem DrAt.itAt{h:Heap}{d:Drw}{k:Nat}(q:DrAt h d k):∃o,h.get? d.it=some o/\o.data=.fields #[.ref d.l,.int k 0]:=by
  rcases q.1 with ⟨o,e,c,r⟩ | ⟨o,e,c,r⟩ <;> exact⟨o,e,r⟩
theorem DrAt.ne{h:Heap}{d:Drw}{k:Nat}(q:DrAt h d k):d.l≠d.it:=fun e=>by
  obtain⟨o,e1,r1⟩:=q.itAt;obtain⟨o',n,e2,r2⟩:=q.2;rw[e,e1]at e2;cases e2;rw[r1]at r2;cases r2
section
variable{prog:Program}{w:World}{A:Around}{E:Value->Shared->Prop}{s:Shared}
theorem bj{d:Drw}{k:Nat}{x:Value}{Q:Value->Shared->Prop}(q:DrAt s.heap d k)(hx:d.xs[k]? = some x)(hQ:∀h',DrAt h' d (k+1)->Heap.SameBut d.it s.heap h'->Q x { s with heap:=h' }) :
    wpAny (model prog w) A (Builtin.SmallTypes.nextOf (.ref d.it)) Q E s:=by
  have hne:=q.ne;obtain⟨a,b⟩:=q
  have keep:∀h',Heap.SameBut d.it s.heap h'->SeqH h' d.l d.xs:=fun h' hs=>by
    obtain⟨o',n,e',r'⟩:=b;exact⟨o',n,hs.extBut _ _ hne e',r'⟩
  rcases a with a | a
  . exact i8 a b hx fun h' a' hs=>hQ h' ⟨.inl a',keep h' hs⟩ hs
  . exact i9 a b hx fun h' a' hs=>hQ h' ⟨.inr a',keep h' hs⟩ hs
theorem zim{d:Drw}{k:Nat}{Q:Value->Shared->Prop}(hh:A.handled=none)(q:DrAt s.heap d k)(hx:d.xs[k]? = none)
    (hE:∀h' e,Heap.ExtBut d.it s.heap h'->(∃o,h'.get? e=some o/\o.cls=.type "StopIteration")->E (.ref e) { s with heap:=h' }) :
    wpAny (model prog w) A (Builtin.SmallTypes.nextOf (.ref d.it)) Q E s:=by
  obtain⟨a,b⟩:=q
  rcases a with a | a
  . exact gu hh a b hx hE
  . exact ff hh a b hx hE
abbrev y9(h:Heap)(T:Addr)(xs:List Value):Prop:=h.get? T=some { cls:=.type "tuple", data:=.seq xs.toArray }
structure j5(z TI TO:Addr)(ds:List Drw):Prop where
  TIz:TI≠z
  TOz:TO≠z
  TITO:TI≠TO
  iz:∀d∈ds,d.it≠z/\d.it≠TI/\d.it≠TO
  lz:∀d∈ds,d.l≠z/\d.l≠TO
  ii:∀(i j:Nat) (d e:Drw),ds[i]? = some d->ds[j]? = some e->i≠j->d.it≠e.it
  li:∀(d e:Drw),d∈ds->e∈ds->d.l≠e.it
structure ZSt(h0 h:Heap)(z TI TO:Addr)(ds:List Drw)(vs old:List Value)(k j:Nat):Prop where
  zip:IsZip h z TI TO .ellipsis
  to:y9 h TO (vs.take j++old.drop j)
  done:∀(i:Nat) (d:Drw),ds[i]? = some d->i<j->DrAt h d (k+1)
  todo:∀(i:Nat) (d:Drw),ds[i]? = some d->j<=i->DrAt h d k
  keep:∀c o,c≠z->c≠TO->(∀d∈ds,c≠d.it)->h0.get? c=some o->h.get? c=some o
  size:h.objs.size=h0.objs.size
theorem zad{T:Addr}{xs:List Value}{x:Value}{k:Nat}{Q:Unit->Shared->Prop}(hT:y9 s.heap T xs)(h8:xs.length<=8)
    (h:∀h',y9 h' T (xs.set k x)->Heap.SameBut T s.heap h'->Q () { s with heap:=h' }):wpAny (model prog w) A (updateSeq T (·.setIfInBounds k x)) Q E s:=by
  have z1:xs.toArray.size<=sizeLine:=by rw[Zr];exact Zd h8 (by decide)
  have z2:(xs.toArray.setIfInBounds k x).size<=sizeLine+1:=by rw[Array.size_setIfInBounds];omega
  refine wpAny_updateSeq (hz:=z1) (_hz':=z2) hT rfl (h _ ?_ (Heap.SameBut.update ..))
  show(s.heap.update T _).get? T=_
  rw[Heap.get?_update_self _ hT rfl];simp[Obj.mapSeq]
theorem gi{α:Type}{l:List α}{j i:Nat}{v:α}{rest:List (α×Nat)}(er:(v,i)::rest=l.zipIdx.drop j):l[j]? = some v/\i=j/\rest=l.zipIdx.drop (j+1):=by
  have h0:l.zipIdx[j]? = some (v,i):=by
    have:(l.zipIdx.drop j)[0]? = some (v,i):=by rw[<-er];rfl
    rwa [YB,Nat.add_zero]at this
  rw[List.getElem?_zipIdx]at h0;have ht:rest=(l.zipIdx.drop j).tail:=by rw[<-er];rfl
  cases e:l[j]? with
  | none=>rw[e]at h0;cases h0
  | some u =>
    rw[e]at h0;simp at h0;exact⟨by rw[h0.1],h0.2.symm,by rw[ht,List.tail_drop]⟩
theorem zh2{z TI TO:Addr}{ds:List Drw}{vs old:List Value}{k:Nat}{Q:Value->Shared->Prop}(D:j5 z TI TO ds)(hn:ds≠[])(hz:IsZip s.heap z TI TO .none)(hTI:y9 s.heap TI (ds.map fun d=>.ref d.it))(hTO:y9 s.heap TO old)
    (lv:vs.length=ds.length) (lo:old.length=ds.length) (h8:ds.length<=8) (hd:∀d∈ds,DrAt s.heap d k) (hv:∀(i:Nat) (d:Drw),ds[i]? = some d->d.xs[k]? = vs[i]?)
    (hQ:∀h',IsZip h' z TI TO (rawInt s.heap.objs.size)->y9 h' TO vs->(∀d∈ds,DrAt h' d (k+1))->y9 h' s.heap.objs.size vs->h'.objs.size=s.heap.objs.size+1 ->
      (∀c o,c≠z->c≠TO->(∀d∈ds,c≠d.it)->s.heap.get? c=some o->h'.get? c=some o)->Q (.ref s.heap.objs.size) { s with heap:=h' }) :
    wpAny (model prog w) A (Builtin.«zip.__next__» ⟨[.ref z],[]⟩) (fun fin s'=>∃v,fin=.done (.ret v)/\Q v s') E s:=by
  show wpAny _ _ (field (.ref z) 2 >>= _) _ _ _
  refine wpAny_bind (wpAny_field hz rfl (x:=.bool false) rfl ?_)
  show wpAny _ _ (field (.ref z) 3 >>= _) _ _ _
  refine wpAny_bind (wpAny_field hz rfl (x:=.ref TI) rfl ?_);refine wpAny_bind (wpAny_seqItems hTI rfl ?_)
  have hne:¬(((ds.map fun d=>Value.ref d.it).toArray).isEmpty=true):=by
    simp;exact hn
  show wpAny _ _ (if ((ds.map fun d=>Value.ref d.it).toArray.isEmpty=true) then _ else _) _ _ _
  rw[if_neg hne]
  show wpAny _ _ (Builtin.SmallTypes.ownedTupleIsFree (.ref z) >>= _) _ _ _
  refine wpAny_bind ?_;unfold Builtin.SmallTypes.ownedTupleIsFree;refine wpAny_bind (wpAny_field hz rfl (x:=.none) rfl (wpAny_pure ?_));simp only[if_true];refine wpAny_bind (wpAny_rule ?_);refine wpAny_bind (wpAny_field hz rfl (x:=.ref TO) rfl ?_);refine wpAny_bind (wpAny_setField_rec hz (by simp) fun h₁ hz₁ hs₁ => ?_)
  replace hz₁:IsZip h₁ z TI TO .ellipsis:=hz₁
  refine wpAny_bind ?_
  have st0:ZSt s.heap h₁ z TI TO ds vs old k 0:=⟨hz₁,by
    rw[List.take_zero,Yo,List.drop_zero]
    exact hs₁.extBut _ _ D.TOz hTO,fun i d _ h=>absurd h (Yy _),fun i d e _=>(hd d (Zi e)).ext (fun o q=>hs₁.extBut _ _ (D.iz d (Zi e)).1 q) (fun o q=>hs₁.extBut _ _ (D.lz d (Zi e)).1 q),fun c o c1 _ _ q=>hs₁.extBut _ _ c1 q,hs₁.1⟩
  refine wpAny_forIn_list _ (fun rest b s'=>b=(none,())/\∃j h,s'={ s with heap:=h }/\j<=ds.length/\rest=((ds.map fun d=>Value.ref d.it).zipIdx).drop j/\ZSt s.heap h z TI TO ds vs old k j) _ ?turn ?fin _ _ ⟨rfl,0,h₁,rfl,ZE _,rfl,st0⟩
  case turn =>
    rintro⟨v,i⟩ rest b s' ⟨rfl,j,h,rfl,hj,er,st⟩
    obtain⟨ev,rfl,er2⟩:=gi er;rw[Ze]at ev
    cases ed:ds[i]? with
    | none=>rw[ed]at ev;cases ev
    | some d =>
    rw[ed]at ev;cases ev;have hil:=(Zc.mp ed).1;have hm:=Zi ed;have ex:=hv i d ed;obtain⟨x,evx⟩:∃x,vs[i]? = some x:=⟨vs[i]'(by omega),Zb _⟩;rw[evx]at ex;refine wpAny_bind (wpAny_onRaise ?_)
    show wpAny _ _ (Builtin.SmallTypes.nextOf (.ref d.it) >>= _) _ _ _
    refine wpAny_bind (bj (s:={ s with heap:=h }) (st.todo i d ed (Zm _)) ex fun h₂ hd₂ hs₂=>wpAny_pure ?_)
    replace hs₂:Heap.SameBut d.it h h₂:=hs₂
    have hTO₂:y9 h₂ TO (vs.take i++old.drop i):=hs₂.extBut _ _ (Ne.symm (D.iz d hm).2.2) st.to;refine wpAny_bind (wpAny_seqItems (s:={ s with heap:=h₂ }) hTO₂ rfl ?_);refine wpAny_bind (zad (s:={ s with heap:=h₂ }) hTO₂ (by rw[Zo,Zj,ZP];omega) fun h₃ hTO₃ hs₃ => ?_)
    replace hs₃:Heap.SameBut TO h₂ h₃:=hs₃
    refine wpAny_bind (wpAny_letGo (wpAny_pure ?_));have up:∀c o,c≠d.it->c≠TO->h.get? c=some o->h₃.get? c=some o:=fun c o c1 c2 e=>hs₃.extBut _ _ c2 (hs₂.extBut _ _ c1 e)
    refine⟨rfl,i+1,h₃,rfl,hil,er2,⟨up _ _ (Ne.symm (D.iz d hm).1) (Ne.symm D.TOz) st.zip,?_,fun m e em hmi => ?_,fun m e em hmi => ?_,fun c o c1 c2 c3 e=>up c o (c3 d hm) c2 (st.keep c o c1 c2 c3 e),?_⟩⟩
    . have:(vs.take i++old.drop i).set i x=vs.take (i+1)++old.drop (i+1):=by
        have lt:(vs.take i).length=i:=by rw[Zj];omega
        have eo:old.drop i=old[i]'(by omega)::old.drop (i+1):=List.drop_eq_getElem_cons (by omega);rw[eo,List.set_append_right _ _ (by omega),lt,Nat.sub_self,List.set_cons_zero,Zq,evx];simp
      rw[this]at hTO₃;exact hTO₃
    . have hme:=Zi em
      by_cases hmi':m=i
      . subst hmi'
        rw[ed]at em;cases em;exact hd₂.ext (fun o q=>hs₃.extBut _ _ (D.iz d hm).2.2 q) (fun o q=>hs₃.extBut _ _ (D.lz d hm).2 q)
      . exact(st.done m e em (by omega)).ext (fun o q=>up _ _ (D.ii m i e d em ed hmi') (D.iz e hme).2.2 q) (fun o q=>up _ _ (D.li e d hme hm) (D.lz e hme).2 q)
    . have hme:=Zi em
      exact(st.todo m e em (by omega)).ext (fun o q=>up _ _ (D.ii m i e d em ed (by omega)) (D.iz e hme).2.2 q) (fun o q=>up _ _ (D.li e d hme hm) (D.lz e hme).2 q)
    . rw[hs₃.1,hs₂.1,st.size]
  case fin =>
    rintro b s' ⟨rfl,j,h,rfl,hj,er,st⟩
    have hjl:j=ds.length:=by
      have:=congrArg List.length er;rw[ZP,List.length_zipIdx,Za,ZX]at this;omega
    subst hjl
    have hTO₅:y9 h TO vs:=by
      have:=st.to
      rwa [<-lv,Zt,List.drop_of_length_le (by omega),Yg]at this
    refine wpAny_bind (wpAny_seqItems (s:={ s with heap:=h }) hTO₅ rfl ?_);have hzl:vs.length<=sizeLine:=Zd (show vs.length<=8 by omega) (by decide);refine wpAny_bind (wpAny_newTuple (s:={ s with heap:=h }) ?_ (by simpa using hzl));have hsz:=st.size;have hzlt:z<h.objs.size:=Heap.lt_size st.zip
    show wpAny _ _ (Builtin.SmallTypes.ownedTupleHandOut (.ref z) (.ref h.objs.size) >>= _) _ _ _
    refine wpAny_bind ?_;unfold Builtin.SmallTypes.ownedTupleHandOut;have hz₆:IsZip (h.push { cls:=.type "tuple", data:=.seq vs.toArray }) z TI TO .ellipsis:=Heap.get?_push_of_some _ st.zip;refine wpAny_bind (wpAny_setField_rec (s:={ s with heap:=h.push { cls:=.type "tuple", data:=.seq vs.toArray } }) hz₆ (by simp) fun h₇ hz₇ hs₇ => ?_)
    replace hz₇:IsZip h₇ z TI TO (rawInt h.objs.size):=hz₇
    replace hs₇:Heap.SameBut z (h.push { cls:=.type "tuple", data:=.seq vs.toArray }) h₇:=hs₇
    refine wpAny_setField_rec (s:={ s with heap:=h₇ }) hz₇ (by simp) fun h₈ hz₈ hs₈ => ?_
    replace hz₈:IsZip h₈ z TI TO (rawInt h.objs.size):=hz₈
    replace hs₈:Heap.SameBut z h₇ h₈:=hs₈
    have up:∀c o,c≠z->h.get? c=some o->h₈.get? c=some o:=fun c o c1 e=>hs₈.extBut _ _ c1 (hs₇.extBut _ _ c1 (Heap.get?_push_of_some _ e))
    have hT₈:y9 h₈ h.objs.size vs:=hs₈.extBut _ _ (Ye hzlt) (hs₇.extBut _ _ (Ye hzlt) (Heap.get?_push_size _ rfl));have hz8:h₈.objs.size=h.objs.size+1:=by rw[hs₈.1,hs₇.1,Heap.size_push]
    rw[hsz]at hz₈ hT₈ hz8;refine wpAny_pure ⟨_,rfl,?_⟩
    show Q (.ref h.objs.size) _
    rw[hsz];refine hQ h₈ hz₈ (up _ _ D.TOz hTO₅) (fun d hm => ?_) hT₈ hz8 fun c o c1 c2 c3 e=>up c o c1 (st.keep c o c1 c2 c3 e)
    obtain⟨m,hml,em⟩:=Zy hm;have em':ds[m]? = some d:=by rw[<-em];exact Zb hml
    exact(st.done m d em' hml).ext (fun o q=>up _ _ (D.iz d hm).1 q) (fun o q=>up _ _ (D.lz d hm).1 q)
structure ZSe(h0 h:Heap)(z TI TO:Addr)(ds:List Drw)(k j:Nat):Prop where
  zip:IsZip h z TI TO .ellipsis
  to:∃ts,y9 h TO ts/\ts.length=ds.length
  more:∀(i:Nat) (d:Drw),ds[i]? = some d->i<j->d.xs[k]? ≠ none
  todo:∀(i:Nat) (d:Drw),ds[i]? = some d->j<=i->DrAt h d k
  keep:∀c o,c≠z->c≠TO->(∀d∈ds,c≠d.it)->h0.get? c=some o->h.get? c=some o
theorem zj4{z TI TO:Addr}{ds:List Drw}{old:List Value}{k:Nat}{Q:Fin->Shared->Prop}(hh:A.handled=none)(D:j5 z TI TO ds)(hn:ds≠[])(hz:IsZip s.heap z TI TO .none)(hTI:y9 s.heap TI (ds.map fun d=>.ref d.it))(hTO:y9 s.heap TO old)
    (lo:old.length=ds.length) (h8:ds.length<=8) (hd:∀d∈ds,DrAt s.heap d k) (hend:∃d∈ds,d.xs[k]? = none)
    (hE:∀h' e,(∀c o,c≠z->c≠TO->(∀d∈ds,c≠d.it)->s.heap.get? c=some o->h'.get? c=some o)->(∃o,h'.get? e=some o/\o.cls=.type "StopIteration")->E (.ref e) { s with heap:=h' }) :
    wpAny (model prog w) A (Builtin.«zip.__next__» ⟨[.ref z],[]⟩) Q E s:=by
  show wpAny _ _ (field (.ref z) 2 >>= _) _ _ _
  refine wpAny_bind (wpAny_field hz rfl (x:=.bool false) rfl ?_)
  show wpAny _ _ (field (.ref z) 3 >>= _) _ _ _
  refine wpAny_bind (wpAny_field hz rfl (x:=.ref TI) rfl ?_);refine wpAny_bind (wpAny_seqItems hTI rfl ?_)
  have hne:¬(((ds.map fun d=>Value.ref d.it).toArray).isEmpty=true):=by
    simp;exact hn
  show wpAny _ _ (if ((ds.map fun d=>Value.ref d.it).toArray.isEmpty=true) then _ else _) _ _ _
  rw[if_neg hne]
  show wpAny _ _ (Builtin.SmallTypes.ownedTupleIsFree (.ref z) >>= _) _ _ _
  refine wpAny_bind ?_;unfold Builtin.SmallTypes.ownedTupleIsFree;refine wpAny_bind (wpAny_field hz rfl (x:=.none) rfl (wpAny_pure ?_));simp only[if_true];refine wpAny_bind (wpAny_rule ?_);refine wpAny_bind (wpAny_field hz rfl (x:=.ref TO) rfl ?_);refine wpAny_bind (wpAny_setField_rec hz (by simp) fun h₁ hz₁ hs₁ => ?_)
  replace hz₁:IsZip h₁ z TI TO .ellipsis:=hz₁
  refine wpAny_bind ?_;have st0:ZSe s.heap h₁ z TI TO ds k 0:=⟨hz₁,⟨old,hs₁.extBut _ _ D.TOz hTO,lo⟩,fun i d _ h=>absurd h (Yy _),fun i d e _=>(hd d (Zi e)).ext (fun o q=>hs₁.extBut _ _ (D.iz d (Zi e)).1 q) (fun o q=>hs₁.extBut _ _ (D.lz d (Zi e)).1 q),fun c o c1 _ _ q=>hs₁.extBut _ _ c1 q⟩;refine wpAny_forIn_list _ (fun rest b s'=>b=(none,())/\∃j h,s'={ s with heap:=h }/\j<=ds.length/\rest=((ds.map fun d=>Value.ref d.it).zipIdx).drop j/\ZSe s.heap h z TI TO ds k j) _ ?turn ?fin _ _ ⟨rfl,0,h₁,rfl,ZE _,rfl,st0⟩
  case turn =>
    rintro⟨v,i⟩ rest b s' ⟨rfl,j,h,rfl,hj,er,st⟩
    obtain⟨ev,rfl,er2⟩:=gi er;rw[Ze]at ev
    cases ed:ds[i]? with
    | none=>rw[ed]at ev;cases ev
    | some d =>
    rw[ed]at ev;cases ev;have hil:=(Zc.mp ed).1;have hm:=Zi ed;refine wpAny_bind (wpAny_onRaise ?_)
    show wpAny _ _ (Builtin.SmallTypes.nextOf (.ref d.it) >>= _) _ _ _
    cases ex:d.xs[k]? with
    | none =>
      refine wpAny_bind (zim (s:={ s with heap:=h }) hh (st.todo i d ed (Zm _)) ex fun h₂ e hs₂ he => ?_);obtain⟨oe,hoe,hce⟩:=he;have hz₂:IsZip h₂ z TI TO .ellipsis:=hs₂ _ _ (Ne.symm (D.iz d hm).1) st.zip;have hez:e≠z:=fun x=>by subst x;rw[hz₂]at hoe;cases hoe;simp at hce
      exact wpAny_setField_rec (s:={ s with heap:=h₂ }) hz₂ (by simp) fun h₃ _ hs₃=>hE h₃ e (fun c o c1 c2 c3 x=>hs₃.extBut _ _ c1 (hs₂ _ _ (c3 d hm) (st.keep c o c1 c2 c3 x))) ⟨oe,hs₃.extBut _ _ hez hoe,hce⟩
    | some x =>
      refine wpAny_bind (bj (s:={ s with heap:=h }) (st.todo i d ed (Zm _)) ex fun h₂ hd₂ hs₂=>wpAny_pure ?_)
      replace hs₂:Heap.SameBut d.it h h₂:=hs₂
      obtain⟨ts,hts,lts⟩:=st.to;have hTO₂:y9 h₂ TO ts:=hs₂.extBut _ _ (Ne.symm (D.iz d hm).2.2) hts;refine wpAny_bind (wpAny_seqItems (s:={ s with heap:=h₂ }) hTO₂ rfl ?_);refine wpAny_bind (zad (s:={ s with heap:=h₂ }) hTO₂ (by omega) fun h₃ hTO₃ hs₃ => ?_)
      replace hs₃:Heap.SameBut TO h₂ h₃:=hs₃
      refine wpAny_bind (wpAny_letGo (wpAny_pure ?_));have up:∀c o,c≠d.it->c≠TO->h.get? c=some o->h₃.get? c=some o:=fun c o c1 c2 e=>hs₃.extBut _ _ c2 (hs₂.extBut _ _ c1 e)
      refine⟨rfl,i+1,h₃,rfl,hil,er2,⟨up _ _ (Ne.symm (D.iz d hm).1) (Ne.symm D.TOz) st.zip,⟨_,hTO₃,by rw[Xg];exact lts⟩,fun m e em hmi => ?_,fun m e em hmi => ?_,fun c o c1 c2 c3 e=>up c o (c3 d hm) c2 (st.keep c o c1 c2 c3 e)⟩⟩
      . by_cases hmi':m=i
        . subst hmi'
          rw[ed]at em;cases em;rw[ex];simp
        . exact st.more m e em (by omega)
      . have hme:=Zi em
        exact(st.todo m e em (by omega)).ext (fun o q=>up _ _ (D.ii m i e d em ed (by omega)) (D.iz e hme).2.2 q) (fun o q=>up _ _ (D.li e d hme hm) (D.lz e hme).2 q)
  case fin =>
    rintro b s' ⟨rfl,j,h,rfl,hj,er,st⟩
    exfalso
    have hjl:j=ds.length:=by
      have:=congrArg List.length er;rw[ZP,List.length_zipIdx,Za,ZX]at this;omega
    subst hjl;obtain⟨d,hm,e⟩:=hend;obtain⟨m,hml,em⟩:=Zy hm;exact st.more m d (by rw[<-em];exact Zb hml) hml e
theorem fh{z TI TO:Addr}{ds:List Drw}{vs old:List Value}{k:Nat}{Q:Option Value->Shared->Prop}(D:j5 z TI TO ds)(hn:ds≠[])(hz:IsZip s.heap z TI TO .none)(hTI:y9 s.heap TI (ds.map fun d=>.ref d.it))(hTO:y9 s.heap TO old)
    (lv:vs.length=ds.length) (lo:old.length=ds.length) (h8:ds.length<=8) (hd:∀d∈ds,DrAt s.heap d k) (hv:∀(i:Nat) (d:Drw),ds[i]? = some d->d.xs[k]? = vs[i]?)
    (hQ:∀h',IsZip h' z TI TO (rawInt s.heap.objs.size)->y9 h' TO vs->(∀d∈ds,DrAt h' d (k+1))->y9 h' s.heap.objs.size vs->h'.objs.size=s.heap.objs.size+1 ->
      (∀c o,c≠z->c≠TO->(∀d∈ds,c≠d.it)->s.heap.get? c=some o->h'.get? c=some o)->Q (some (.ref s.heap.objs.size)) { s with heap:=h' }) :
    wpAny (model prog w) A (pyNext (.ref z)) Q E s:=by
  have hT:s.TypeIs (.ref z) "zip" := ⟨_,hz,rfl⟩;unfold pyNext
  exact wpAny_bind (wpAny_attempt (wpAny_callSpecial?_slot (name:=Str.ofString "__next__") hT F.slot_zip_next
    (wpAny_call_entry F.slot_zip_next hT F.entry_zip_next
      (zh2 D hn hz hTI hTO lv lo h8 hd hv fun h' a1 a2 a3 a4 a5 a6=>wpAny_pure (hQ h' a1 a2 a3 a4 a5 a6)) (F.args_zip_next_1 _))))
theorem di{z TI TO:Addr}{ds:List Drw}{old:List Value}{k:Nat}{Q:Option Value->Shared->Prop}(hh:A.handled=none)(D:j5 z TI TO ds)(hn:ds≠[])(hz:IsZip s.heap z TI TO .none)(hTI:y9 s.heap TI (ds.map fun d=>.ref d.it))(hTO:y9 s.heap TO old)
    (lo:old.length=ds.length) (h8:ds.length<=8) (hd:∀d∈ds,DrAt s.heap d k) (hend:∃d∈ds,d.xs[k]? = none)
    (hQ:∀h',(∀c o,c≠z->c≠TO->(∀d∈ds,c≠d.it)->s.heap.get? c=some o->h'.get? c=some o)->Q none { s with heap:=h' }):wpAny (model prog w) A (pyNext (.ref z)) Q E s:=by
  have hT:s.TypeIs (.ref z) "zip" := ⟨_,hz,rfl⟩;unfold pyNext
  refine wpAny_bind (wpAny_attempt (wpAny_callSpecial?_slot (name:=Str.ofString "__next__") hT F.slot_zip_next
    (wpAny_call_entry F.slot_zip_next hT F.entry_zip_next (zj4 hh D hn hz hTI hTO lo h8 hd hend fun h' e hk he => ?_) (F.args_zip_next_1 _))))
  obtain⟨o,ho,hc⟩:=he;refine wpAny_bind (wpAny_isInstance (T := "StopIteration") (b:=true) ⟨o,ho,hc⟩ isSubtype_stop ?_);exact wpAny_pure (hQ _ hk)
end
def SrcAt(h:Heap)(b:Bool)(l:Addr)(xs:Array Value):Prop:=if b=true then h.IsList l xs else h.IsTuple l xs
def w6(b:Bool)(l:Addr):Obj:={ cls:=.type (if b=true then "list_iterator" else "tuple_iterator"),data:=.fields #[.ref l,.int 0 0] }
theorem SrcAt.push{h:Heap}{b:Bool}{l:Addr}{xs:Array Value}(q:SrcAt h b l xs)(o:Obj):SrcAt (h.push o) b l xs:=by
  cases b
  . obtain⟨p,e,r⟩:=(show h.IsTuple l xs from q)
    exact⟨p,Heap.get?_push_of_some _ e,r⟩
  . obtain⟨p,e,r⟩:=(show h.IsList l xs from q)
    exact⟨p,Heap.get?_push_of_some _ e,r⟩
theorem du{prog:Program}{w:World}{A:Around}{E:Value->Shared->Prop}{s:Shared}{b:Bool}{l:Addr}{xs:Array Value}{Q:Value->Shared->Prop}(q:SrcAt s.heap b l xs)(hQ:Q (.ref s.heap.objs.size) { s with heap:=s.heap.push (w6 b l) }) :
    wpAny (model prog w) A (pyIter (.ref l)) Q E s:=by
  cases b
  . exact wpAny_pyIter_tuple (show s.heap.IsTuple l xs from q) hQ
  . exact wpAny_pyIter_list (show s.heap.IsList l xs from q) hQ
theorem zeo(b1 b2:Bool)(l1 l2:Addr)(x1 x2:Array Value) :
    Meets (Builtin.«zip.__new__» ⟨[.type "zip", .ref l1,.ref l2],[]⟩) (fun _ R s=>SrcAt s.heap b1 l1 x1/\SrcAt s.heap b2 l2 x2 /\
      ∀h',h'=((((s.heap.push (w6 b1 l1)).push (w6 b2 l2)).push { cls:=.type "tuple", data:=.seq #[.ref s.heap.objs.size,.ref (s.heap.push (w6 b1 l1)).objs.size] }).push { cls:=.type "tuple", data:=.seq #[.none,.none] }) ->
      R (.ok (.ret (.ref h'.objs.size))) { s with heap:=h'.push { cls:=.type "zip", data:=.fields #[.none,.bool false,.bool false,.ref ((s.heap.push (w6 b1 l1)).push (w6 b2 l2)).objs.size,.ref (((s.heap.push (w6 b1 l1)).push (w6 b2 l2)).push { cls:=.type "tuple", data:=.seq #[.ref s.heap.objs.size,.ref (s.heap.push (w6 b1 l1)).objs.size] }).objs.size] } }) :=
  .of_wp fun prog w A R s h=>by
    obtain⟨hp,g,d,tk,os⟩:=s;obtain⟨hl1,hl2,h⟩:=h;have hsub:=sub_zip;have hL1:SrcAt (Shared.heap ⟨hp,g,d,tk,os⟩) b1 l1 x1:=hl1;have hL2:SrcAt (Shared.heap ⟨hp.push (w6 b1 l1),g,d,tk,os⟩) b2 l2 x2:=SrcAt.push hl2 _
    wp_walk using du hL1,du hL2
    exact⟨_,rfl,h _ rfl⟩
theorem DrAt.start{h:Heap}{b:Bool}{n l:Addr}{xs:Array Value}(e:h.get? n=some (w6 b l))(q:SrcAt h b l xs):DrAt h ⟨n,l,xs⟩ 0:=by
  cases b
  . obtain⟨o,e',c,n,r⟩:=(show h.IsTuple l xs from q)
    exact⟨.inr ⟨_,e,rfl,rfl⟩,o,n,e',r⟩
  . obtain⟨o,e',c,n,r⟩:=(show h.IsList l xs from q)
    exact⟨.inl ⟨_,e,rfl,rfl⟩,o,n,e',r⟩
theorem SrcAt.keeps{h h':Heap}{b:Bool}{l:Addr}{xs:Array Value}(q:SrcAt h b l xs)(k:∀c o,h.get? c=some o->h'.get? c=some o):SrcAt h' b l xs:=by
  cases b
  . obtain⟨p,e,r⟩:=(show h.IsTuple l xs from q)
    exact⟨p,k _ _ e,r⟩
  . obtain⟨p,e,r⟩:=(show h.IsList l xs from q)
    exact⟨p,k _ _ e,r⟩
section
variable{prog:Program}{w:World}{A:Around}{E:Value->Shared->Prop}{s:Shared}
theorem zei{b1 b2:Bool}{l1 l2:Addr}{x1 x2:Array Value}{Q:Value->Shared->Prop}(hl1:SrcAt s.heap b1 l1 x1)(hl2:SrcAt s.heap b2 l2 x2)
    (h:∀h',IsZip h' (s.heap.objs.size+4) (s.heap.objs.size+2) (s.heap.objs.size+3) .none->y9 h' (s.heap.objs.size+2) [.ref s.heap.objs.size,.ref (s.heap.objs.size+1)] ->
      y9 h' (s.heap.objs.size+3) [.none,.none]->DrAt h' ⟨s.heap.objs.size,l1,x1⟩ 0->DrAt h' ⟨s.heap.objs.size+1,l2,x2⟩ 0 ->
      (∀c o,s.heap.get? c=some o->h'.get? c=some o)->Q (.ref (s.heap.objs.size+4)) { s with heap:=h' }) :
    wpAny (model prog w) A (call (.type "zip") [.ref l1,.ref l2]) Q E s:=by
  refine callType_new F.called_zip (by decide) (F.typeCall_zip_2 _ _) (F.newCall_zip_2 _ _) (fun obj=>F.args_object_init_3 obj _ _) F.entry_zip_new
    (zeo b1 b2 l1 l2 x1 x2) ⟨hl1,hl2,?_⟩
  intro h0 e0;generalize e1:s.heap.push (w6 b1 l1)=h1 at *;have z1:h1.objs.size=s.heap.objs.size+1:=by rw[<-e1];exact Heap.size_push ..
  generalize e2:h1.push (w6 b2 l2)=h2 at *;have z2:h2.objs.size=s.heap.objs.size+2:=by rw[<-e2,Heap.size_push,z1]
  rw[z1]at e0;rw[z1,z2];generalize e4:h2.push { cls:=.type "tuple", data:=.seq #[.ref s.heap.objs.size,.ref (s.heap.objs.size+1)] }=h4 at *;have z4:h4.objs.size=s.heap.objs.size+3:=by rw[<-e4,Heap.size_push,z2]
  have z5:h0.objs.size=s.heap.objs.size+4:=by rw[e0,Heap.size_push,z4]
  rw[z4,z5];have k1:∀c o,s.heap.get? c=some o->h1.get? c=some o:=fun c o q=>by rw[<-e1];exact Heap.get?_push_of_some _ q
  have k2:∀c o,h1.get? c=some o->h2.get? c=some o:=fun c o q=>by rw[<-e2];exact Heap.get?_push_of_some _ q
  have k4:∀c o,h2.get? c=some o->h4.get? c=some o:=fun c o q=>by rw[<-e4];exact Heap.get?_push_of_some _ q
  have k5:∀c o,h4.get? c=some o->h0.get? c=some o:=fun c o q=>by rw[e0];exact Heap.get?_push_of_some _ q
  have g1:h1.get? s.heap.objs.size=some (w6 b1 l1):=by rw[<-e1];exact Heap.get?_push_size _ rfl
  have g2:h2.get? (s.heap.objs.size+1)=some (w6 b2 l2):=by rw[<-e2,<-z1];exact Heap.get?_push_size _ rfl
  have g4:h4.get? (s.heap.objs.size+2)=some { cls:=.type "tuple", data:=.seq #[.ref s.heap.objs.size,.ref (s.heap.objs.size+1)] }:=by rw[<-e4,<-z2];exact Heap.get?_push_size _ rfl
  have g5:h0.get? (s.heap.objs.size+3)=some { cls:=.type "tuple", data:=.seq #[.none,.none] }:=by rw[e0,<-z4];exact Heap.get?_push_size _ rfl
  generalize ezo:({ cls:=.type "zip", data:=.fields #[.none,.bool false,.bool false,.ref (s.heap.objs.size+2),.ref (s.heap.objs.size+3)] }:Obj)=zo at *;have k6:∀c o,h0.get? c=some o->(h0.push zo).get? c=some o:=fun c o q=>Heap.get?_push_of_some _ q
  have g6:(h0.push zo).get? (s.heap.objs.size+4)=some zo:=by rw[<-z5];exact Heap.get?_push_size _ (by rw[<-ezo];rfl)
  have kk:∀c o,s.heap.get? c=some o->(h0.push zo).get? c=some o:=fun c o q=>k6 _ _ (k5 _ _ (k4 _ _ (k2 _ _ (k1 _ _ q))))
  show _/\_
  have g7:IsZip (h0.push zo) (s.heap.objs.size+4) (s.heap.objs.size+2) (s.heap.objs.size+3) .none:=by
    show(h0.push zo).get? _=_
    rw[g6,<-ezo]
  refine⟨⟨_,g7,rfl⟩,h _ g7 (k6 _ _ (k5 _ _ g4)) (k6 _ _ g5) ?_ ?_ kk⟩
  . exact DrAt.start (b:=b1) (k6 _ _ (k5 _ _ (k4 _ _ (k2 _ _ g1)))) (hl1.keeps kk)
  . exact DrAt.start (b:=b2) (k6 _ _ (k5 _ _ (k4 _ _ g2))) (hl2.keeps kk)
end
end L2
namespace L2
open PySem PySem.Spec PyProof.Rows
def SqA(K:Fg)(H:Hp)(a:Addr)(xs:List V):Prop:=SqL K H a xs\/SqT K H a xs
structure su(K:Fg)(H:Hp)(as:List Addr)(xss:List (List V)):Prop where
  len:as.length=xss.length
  at':∀(j:Nat) (a:Addr) (xs:List V),as[j]? = some a->xss[j]? = some xs->SqA K H a xs
def ItN(K:Fg)(as:List Addr):It :=
  ⟨fun i H=>∃xss,su K H as xss/\∀xs∈xss,i<xs.length,
   fun i H v H'=>∃T vs,v=.ref T/\H T=none/\H'=upd H T (.tup vs)/\∀xss,su K H as xss->vs.length=xss.length/\∀(j:Nat) (xs:List V),xss[j]? = some xs->xs[i]? = vs[j]?,
   fun i H=>∃xss,su K H as xss/\∃xs∈xss,xs.length<=i⟩
def zhh(z TI TO:Addr)(its ls:List Addr)(i:Nat)(h:Heap):Prop :=
  IsZip h z TI TO .none/\y9 h TI (its.map fun a=>.ref a)/\(∃old,y9 h TO old/\old.length=its.length)/\∀(j:Nat) (it l:Addr),its[j]? = some it->ls[j]? = some l->h.IsListIter it l i\/h.IsTupleIter it l i
structure zaq(z TI TO:Addr)(its:List Addr):Prop where
  TIz:TI≠z
  TOz:TO≠z
  TITO:TI≠TO
  iz:∀it∈its,it≠z/\it≠TI/\it≠TO
  nd:its.Nodup
section
variable{X:Cx}{pins:List (Addr×Obj)}{σ:St}{H:Hp}{s:Shared}
theorem Inv.sqA(I:Inv X pins σ H s){a:Addr}{xs:List V}(q:SqA X.K H a xs):∃us:List Value,Vals xs us/\SeqH s.heap a us.toArray:=by
  rcases q with q | q
  . obtain⟨us,r,pl,_⟩:=I.list q
    obtain⟨o,e,c,n,d⟩:=pl.isList;exact⟨us,r,o,n,e,d⟩
  . obtain⟨us,r,⟨o,e,c,n,d⟩,_⟩:=I.tuple q
    exact⟨us,r,o,n,e,d⟩
theorem Inv.sqA_inj(I:Inv X pins σ H s){a:Addr}{xs ys:List V}(q:SqA X.K H a xs)(q':SqA X.K H a ys):xs=ys:=by
  obtain⟨us,r,o,n,e,d⟩:=I.sqA q;obtain⟨us',r',o',n',e',d'⟩:=I.sqA q';rw[e]at e';cases e';rw[d]at d'
  injection d' with d1 _
  have:us=us':=by simpa using congrArg Array.toList d1
  subst this;exact r.inj r'
theorem Inv.sqA_ne(I:Inv X pins σ H s){a b:Addr}{xs:List V}(q:SqA X.K H a xs)(f:FpOk X pins H b):a≠b:=by
  rintro rfl
  have hk:∀o,X.K.lookup a=some o->False:=fun o hk=>by
    have e:X.base.get? a=some o:=I.ok.mod.kin a o hk
    rcases f.2.2.2.1 with z | z
    . exact I.ok.noex _ _ e z
    . exact absurd (Heap.lt_size (I.ok.bs a o e).1) (ZD.mpr z)
  rcases q with ((q | ⟨o,q⟩) | ⟨o,its,n,q,_⟩) | ((q | ⟨o,q⟩) | ⟨o,its,n,q,_⟩)
  . rw[f.1]at q;cases q
  . rw[f.1]at q;cases q
  . exact hk o q
  . rw[f.1]at q;cases q
  . rw[f.1]at q;cases q
  . exact hk o q
def mkDs:List Addr->List Addr->List (List Value)->List Drw
  | it::its,l::ls,u::us=>⟨it,l,u.toArray⟩::mkDs its ls us
  | _,_,_=>[]
theorem vd:∀{its ls:List Addr} {us:List (List Value)},its.length=ls.length->ls.length=us.length->∀(j:Nat) (d:Drw),(mkDs its ls us)[j]? = some d↔∃it l u,its[j]? = some it/\ls[j]? = some l/\us[j]? = some u/\d=⟨it,l,u.toArray⟩
  | [],[],[],_,_,j,d=>by simp[mkDs]
  | it::its,l::ls,u::us,h1,h2,0,d=>by
    simp only[mkDs,List.getElem?_cons_zero,Option.some.injEq]
    constructor
    . intro e;exact⟨it,l,u,rfl,rfl,rfl,e.symm⟩
    . rintro⟨a,b,c,rfl,rfl,rfl,e⟩;exact e.symm
  | it::its,l::ls,u::us,h1,h2,j+1,d=>by
    simp only[mkDs,YE];exact vd (by simpa using h1) (by simpa using h2) j d
theorem gy:∀{its ls:List Addr} {us:List (List Value)},its.length=ls.length->ls.length=us.length->(mkDs its ls us).length=its.length
  | [],[],[],_,_=>rfl
  | it::its,l::ls,u::us,h1,h2=>by
    simp only[mkDs,ZN];rw[gy (by simpa using h1) (by simpa using h2)]
theorem gq:∀{its ls:List Addr} {us:List (List Value)},its.length=ls.length->ls.length=us.length->(mkDs its ls us).map (fun d=>Value.ref d.it)=its.map fun a=>Value.ref a
  | [],[],[],_,_=>rfl
  | it::its,l::ls,u::us,h1,h2=>by
    simp only[mkDs,ZM];rw[gq (by simpa using h1) (by simpa using h2)]
theorem jr(I:Inv X pins σ H s):∀{as:List Addr} {xss:List (List V)},su X.K H as xss->∃uss:List (List Value),as.length=uss.length/\∀(j:Nat) (a:Addr) (xs:List V) (us:List Value),as[j]? = some a->xss[j]? = some xs->uss[j]? = some us->Vals xs us/\SeqH s.heap a us.toArray
  | [],[],_=>⟨[],rfl,fun j a xs us e=>by simp at e⟩
  | a::as,xs::xss,q=>by
    obtain⟨us,r,sq⟩:=I.sqA (q.at' 0 a xs rfl rfl);obtain⟨uss,l,f⟩:=jr I (as:=as) (xss:=xss) ⟨by simpa using q.len,fun j b ys e1 e2=>q.at' (j+1) b ys (by simpa using e1) (by simpa using e2)⟩;refine⟨us::uss,by simp[l],fun j b ys vs e1 e2 e3 => ?_⟩
    cases j with
    | zero =>
      simp at e1 e2 e3;subst e1 e2 e3;exact⟨r,sq⟩
    | succ j=>exact f j b ys vs (by simpa using e1) (by simpa using e2) (by simpa using e3)
  | [],xs::xss,q=>by simpa using q.len
  | a::as,[],q=>by simpa using q.len
theorem zf0(I:Inv X pins σ H s){as:List Addr}{xss yss:List (List V)}(q:su X.K H as xss)(q':su X.K H as yss):xss=yss:=by
  refine List.ext_getElem? fun j => ?_
  cases e1:xss[j]? with
  | none =>
    have:=List.getElem?_eq_none_iff.mp e1;exact(Yr (by rw[<-q'.len,q.len];exact this)).symm
  | some xs =>
    have hj:=(Zc.mp e1).1;have hj1:j<as.length:=by rw[q.len];exact hj
    have hj2:j<yss.length:=by rw[<-q'.len];exact hj1
    rw[Zb hj2,I.sqA_inj (q.at' j _ xs (Zb hj1) e1) (q'.at' j _ _ (Zb hj1) (Zb hj2))]
theorem dn(I:Inv X pins σ H s){z TI TO:Addr}{its ls:List Addr}(D:zaq z TI TO its)(hl:its.length=ls.length){i:Nat}(hf:∀b∈z::TI::TO::its,FpOk X pins H b)(st:zhh z TI TO its ls i s.heap){xss:List (List V)}(q:su X.K H ls xss)
    {uss:List (List Value)} (lu:ls.length=uss.length) (hu:∀(j:Nat) (a:Addr) (xs:List V) (us:List Value),ls[j]? = some a->xss[j]? = some xs->uss[j]? = some us->Vals xs us/\SeqH s.heap a us.toArray) :
    j5 z TI TO (mkDs its ls uss)/\∀d∈mkDs its ls uss,DrAt s.heap d i:=by
  have get:∀d∈mkDs its ls uss,∃(j:Nat) (it l:Addr) (u:List Value) (xs:List V),its[j]? = some it/\ls[j]? = some l/\uss[j]? = some u/\xss[j]? = some xs/\d=⟨it,l,u.toArray⟩:=fun d hd=>by
    obtain⟨j,hj,e⟩:=Zy hd;obtain⟨it,l,u,e1,e2,e3,e4⟩:=(vd hl lu j d).mp (by rw[<-e];exact Zb hj);have hjx:j<xss.length:=by rw[<-q.len];exact(Zc.mp e2).1
    exact⟨j,it,l,u,_,e1,e2,e3,Zb hjx,e4⟩
  have at0:∀d∈mkDs its ls uss,DrAt s.heap d i:=fun d hd=>by
    obtain⟨j,it,l,u,xs,e1,e2,e3,e4,rfl⟩:=get d hd;exact⟨st.2.2.2 j it l e1 e2,(hu j l xs u e2 e4 e3).2⟩
  have sq:∀d∈mkDs its ls uss,∃xs,SqA X.K H d.l xs:=fun d hd=>by
    obtain⟨j,it,l,u,xs,e1,e2,e3,e4,rfl⟩:=get d hd;exact⟨xs,q.at' j l xs e2 e4⟩
  have itm:∀d∈mkDs its ls uss,d.it∈its:=fun d hd=>by
    obtain⟨j,it,l,u,xs,e1,e2,e3,e4,rfl⟩:=get d hd;exact Zi e1
  refine⟨⟨D.TIz,D.TOz,D.TITO,fun d hd=>D.iz _ (itm d hd),fun d hd => ?_,fun j k d e ej ek hjk => ?_,fun d e hd he => ?_⟩,at0⟩
  . obtain⟨xs,q1⟩:=sq d hd
    exact⟨I.sqA_ne q1 (hf z (by simp)),I.sqA_ne q1 (hf TO (by simp))⟩
  . obtain⟨it,l,u,a1,_,_,rfl⟩:=(vd hl lu j d).mp ej
    obtain⟨it',l',u',a1',_,_,rfl⟩:=(vd hl lu k e).mp ek;intro heq;have heq':it=it':=heq;subst heq';obtain⟨h1,g1⟩:=Zc.mp a1;obtain⟨h2,g2⟩:=Zc.mp a1';exact hjk ((YK D.nd).mp (g1.trans g2.symm))
  . obtain⟨xs,q1⟩:=sq d hd
    exact I.sqA_ne q1 (hf e.it (by simp[itm e he]))
end
theorem zfz{P:Program}{w:World}{K:Fg}{elts:List Expr}{x1:Nat}{pos:Pos}(z TI TO:Addr)(its ls:List Addr)(D:zaq z TI TO its)(hl:its.length=ls.length)(hn:its≠[])(h8:its.length<=8) :
    Turn P w K (.Tuple elts x1 pos) (ItN K ls) (z::TI::TO::its) z (zhh z TI TO its ls) where
  mem:=by simp
  obj:=fun i h st b hb=>by
    obtain⟨hz,hTI,⟨old,hTO,_⟩,hi⟩:=st;simp only[ZK]at hb
    rcases hb with rfl | rfl | rfl | hb
    . exact⟨_,hz,fun v q=>by cases q⟩
    . exact⟨_,hTI,fun v q=>by cases q⟩
    . exact⟨_,hTO,fun v q=>by cases q⟩
    . obtain⟨j,hj,e⟩:=Zy hb
      have hj2:j<ls.length:=by rw[<-hl];exact hj
      rcases hi j b _ (by rw[<-e];exact Zb hj) (Zb hj2) with ⟨o,e1,_,d1⟩ | ⟨o,e1,_,d1⟩
      . exact⟨o,e1,fun v q=>by rw[d1]at q;cases q⟩
      . exact⟨o,e1,fun v q=>by rw[d1]at q;cases q⟩
  keep:=fun i h h' st k=>by
    obtain⟨hz,hTI,⟨old,hTO,lo⟩,hi⟩:=st;refine⟨k z (by simp) _ hz,k TI (by simp) _ hTI,⟨old,k TO (by simp) _ hTO,lo⟩,fun j it l e1 e2 => ?_⟩;have hm:it∈z::TI::TO::its:=by simp[Zi e1]
    rcases hi j it l e1 e2 with ⟨o,a,r⟩ | ⟨o,a,r⟩
    . exact .inl ⟨o,k it hm o a,r⟩
    . exact .inr ⟨o,k it hm o a,r⟩
  item:=by
    intro X hP hw hK hc i pins s σ H E I hf st hg;subst hP hw hK;obtain⟨xss,q,hlen⟩:=hg;obtain⟨uss,lu,hu⟩:=jr I q;obtain⟨A,at0⟩:=dn I D hl hf st q lu hu;obtain⟨hz,hTI,⟨old,hTO,lo⟩,hi⟩:=id st;have dl:=gy hl lu
    -- the values of this turn
    have hvs:∃(vs:List V) (ws:List Value),Vals vs ws/\vs.length=xss.length/\ws.length=xss.length/\(∀(j:Nat) (xs:List V),xss[j]? = some xs->xs[i]? = vs[j]?)/\∀(j:Nat) (us:List Value),uss[j]? = some us->us[i]? = ws[j]? := by
      have go:∀(ys:List (List V)) (us:List (List Value)),ys.length=us.length->(∀xs∈ys,i<xs.length)->(∀(j:Nat) (xs:List V) (u:List Value),ys[j]? = some xs->us[j]? = some u->Vals xs u) ->
          ∃(vs:List V) (ws:List Value),Vals vs ws/\vs.length=ys.length/\ws.length=ys.length/\(∀(j:Nat) (xs:List V),ys[j]? = some xs->xs[i]? = vs[j]?)/\∀(j:Nat) (u:List Value),us[j]? = some u->u[i]? = ws[j]? := by
        intro ys
        induction ys with
        | nil =>
          intro us hl _ _
          cases us with
          | nil=>exact⟨[],[],.nil,rfl,rfl,fun j xs e=>by simp at e,fun j xs e=>by simp at e⟩
          | cons _ _=>simp at hl
        | cons y ys ih =>
          intro us hl h1 h2
          cases us with
          | nil=>simp at hl
          | cons u us =>
            obtain⟨vs,ws,r,l1,l2,g1,g2⟩:=ih us (by simpa using hl) (fun xs hx=>h1 xs (Zv _ hx)) fun j xs v e1 e2=>h2 (j+1) xs v (by simpa using e1) (by simpa using e2)
            have hy:i<y.length:=h1 y ZA;have r0:=h2 0 y u rfl rfl;obtain⟨x,hx,rx⟩:=r0.get (Zb hy);refine⟨y[i]::vs,x::ws,.cons rx r,by simp[l1],by simp[l2],fun j xs e => ?_,fun j v e => ?_⟩
            . cases j with
              | zero =>
                simp at e;subst e;simp[hy]
              | succ j=>simpa using g1 j xs (by simpa using e)
            . cases j with
              | zero =>
                simp at e;subst e
                simpa using hx
              | succ j=>simpa using g2 j v (by simpa using e)
      refine go xss uss (by rw[<-q.len,lu]) hlen fun j xs u e1 e2 => ?_
      have hj:j<ls.length:=by rw[lu];exact(Zc.mp e2).1
      exact(hu j _ xs u (Zb hj) e1 e2).1
    obtain⟨vs,ws,rvs,lv,lw,gv,gw⟩:=hvs;refine fh (vs:=ws) (old:=old) A (fun e=>hn (by have:=congrArg List.length e;rw[dl]at this;exact Ym.mp this)) hz (by rw[gq hl lu];exact hTI) hTO (by rw[lw,dl,hl,q.len]) (by rw[lo,dl]) (by rw[dl];exact h8) at0 (fun j d ed => ?_) fun h' a1 a2 a3 a4 a5 hk => ?_
    . obtain⟨it,l,u,e1,e2,e3,rfl⟩:=(vd hl lu j d).mp ed
      show u.toArray[i]? = _
      rw[List.getElem?_toArray];exact gw j u e3
    have ltT:∀{c o},s.heap.get? c=some o->c≠s.heap.objs.size:=fun e=>Zs (Heap.lt_size e)
    refine⟨_,rfl,wpAny_letOwnedTupleGo_zip (s:={ s with heap:=h' }) a1 fun h'' b1 sb => ?_⟩;have hTz:s.heap.objs.size≠z:=Ne.symm (ltT hz)
    have itz:∀d∈mkDs its ls uss,d.it∈its:=fun d hd=>by
      obtain⟨j,hj,e⟩:=Zy hd;obtain⟨it,l,u,e1,_,_,e4⟩:=(vd hl lu j d).mp (by rw[<-e];exact Zb hj);rw[e4];exact Zi e1
    have kk:∀c o,c∉z::TO::its->s.heap.get? c=some o->h''.get? c=some o:=fun c o hc e=>by
      simp only[ZK,not_or]at hc;exact sb.extBut c o hc.1 (hk c o hc.1 hc.2.1 (fun d hd z=>hc.2.2 (z▸itz d hd)) e)
    have hf4:∀b∈z::TO::its,FpOk X pins H b:=fun b hb=>hf b (by
      simp only[ZK]at hb ⊢
      rcases hb with h | h | h
      . exact .inl h
      . exact .inr (.inr (.inl h))
      . exact .inr (.inr (.inr h)))
    have hvl:vs.length<=sizeLine:=Zd (show vs.length<=8 by rw[lv,<-q.len,<-hl];exact h8) (by decide)
    have I1:Inv X pins σ (upd H s.heap.objs.size (.tup vs)) { s with heap:=h'',toks:=s.toks }:=I.turnedLaid (ch:=z::TO::its) hf4 (fun b o hb e=>kk b o hb e) (Zm _) ⟨hvl,ws,rvs,by
        have e:=sb.extBut _ _ hTz a4
        exact⟨_,e,rfl,_,rfl,rfl⟩⟩
    refine⟨.ref s.heap.objs.size,_,I1,rfl,⟨s.heap.objs.size,vs,rfl,I.hok.fresh (Zm _),rfl,fun yss q' => ?_⟩,?_,fun b hb => ?_⟩
    . rw[zf0 I q' q]
      exact⟨lv,gv⟩
    . refine⟨b1,sb.extBut _ _ D.TIz (hk _ _ D.TIz D.TITO (fun d hd=>Ne.symm (A.iz d hd).2.1) hTI),⟨ws,sb.extBut _ _ D.TOz a2,by rw[lw,<-q.len,hl]⟩,fun j it l e1 e2 => ?_⟩
      have hj3:j<uss.length:=by rw[<-lu];exact(Zc.mp e2).1
      have hm:(⟨it,l,(uss[j]).toArray⟩:Drw)∈mkDs its ls uss:=Zi ((vd hl lu j _).mpr ⟨it,l,_,e1,e2,Zb hj3,rfl⟩);have hne:it≠z:=(A.iz _ hm).1
      rcases (a3 _ hm).1 with ⟨o,a,r⟩ | ⟨o,a,r⟩
      . exact .inl ⟨o,sb.extBut _ _ hne a,r⟩
      . exact .inr ⟨o,sb.extBut _ _ hne a,r⟩
    . have hb':=(hf b hb).1
      rw[zp ?_]
      . exact hb'
      . simp only[ZK]at hb
        rcases hb with rfl | rfl | rfl | hb
        . exact ltT hz
        . exact ltT hTI
        . exact ltT hTO
        . obtain⟨j,hj,e⟩:=Zy hb
          have hj2:j<ls.length:=by rw[<-hl];exact hj
          rcases hi j b _ (by rw[<-e];exact Zb hj) (Zb hj2) with ⟨o,e1,_⟩ | ⟨o,e1,_⟩ <;> exact ltT e1
  done:=by
    intro X hP hw hK hc i pins s σ H E I hf st hg;subst hP hw hK;obtain⟨xss,q,xs,hxm,hle⟩:=hg;obtain⟨uss,lu,hu⟩:=jr I q;obtain⟨A,at0⟩:=dn I D hl hf st q lu hu;obtain⟨hz,hTI,⟨old,hTO,lo⟩,hi⟩:=id st;have dl:=gy hl lu
    have itz:∀d∈mkDs its ls uss,d.it∈its:=fun d hd=>by
      obtain⟨j,hj,e⟩:=Zy hd;obtain⟨it,l,u,e1,_,_,e4⟩:=(vd hl lu j d).mp (by rw[<-e];exact Zb hj);rw[e4];exact Zi e1
    refine di (old:=old) (I.ok.hd hc) A (fun e=>hn (by have:=congrArg List.length e;rw[dl]at this;exact Ym.mp this)) hz (by rw[gq hl lu];exact hTI) hTO (by rw[lo,dl]) (by rw[dl];exact h8) at0 ?_ fun h' hk=>⟨rfl,?_⟩
    . obtain⟨j,hj,e⟩:=Zy hxm
      have ex:xss[j]? = some xs:=by rw[<-e];exact Zb hj
      have hj1:j<ls.length:=by rw[q.len];exact hj
      have hj2:j<its.length:=by rw[hl];exact hj1
      have hj3:j<uss.length:=by rw[<-lu];exact hj1
      refine⟨⟨its[j],ls[j],(uss[j]).toArray⟩,Zi ((vd hl lu j _).mpr ⟨_,_,_,Zb hj2,Zb hj1,Zb hj3,rfl⟩),?_⟩;have r:=(hu j _ xs _ (Zb hj1) ex (Zb hj3)).1;have rl:=r.length
      show(uss[j]).toArray[i]? = none
      rw[List.getElem?_toArray];exact Yr (by omega)
    have nch:∀b u,H b=some u->b∉z::TO::its:=fun b u e q=>by
      have:=(hf b (by
        simp only[ZK]at q ⊢
        rcases q with h | h | h
        . exact .inl h
        . exact .inr (.inr (.inl h))
        . exact .inr (.inr (.inr h)))).1
      rw[this]at e;cases e
    have k:∀b o,b∉z::TO::its->s.heap.get? b=some o->h'.get? b=some o:=fun b o hb e=>by
      simp only[ZK,not_or]at hb;exact hk b o hb.1 hb.2.1 (fun d hd z=>hb.2.2 (z▸itz d hd)) e
    have hf4:∀b∈z::TO::its,FpOk X pins H b:=fun b hb=>hf b (by
      simp only[ZK]at hb ⊢
      rcases hb with h | h | h
      . exact .inl h
      . exact .inr (.inr (.inl h))
      . exact .inr (.inr (.inr h)))
    exact I.step (g':=s.gens) (d':=s.drawn) (t':=s.toks) (ch:=z::TO::its) (fun b hb=>by
        obtain⟨f0,f1,f2,f3,f4,f5⟩:=hf4 b hb
        exact⟨f3,f1,f4,f5⟩) (fun b o _ _ hc e _=>k b o hc e) (fun b o _ _ hc e _=>⟨o.slots,k b o hc e⟩) (fun b o _ e n=>n)
      (fun b o hc e=>⟨o,k b o hc e⟩) (fun b xs e=>e) (fun b ob u e=>e) (fun b ps e=>⟨#[],by rw[e];simp⟩) (fun m hm=>by
        obtain⟨ob,es,ep,ho,r⟩:=hm
        exact⟨ob,es,ep,k _ ob (fun q=>(hf4 _ q).2.1 rfl) ho,r⟩) (fun b u e=>(I.hok b u e).stay (fun c v hc q=>k c v (by
          rcases hc with r | r
          . rw[r];exact nch b u e
          . exact nch c _ r) q) (fun _ q=>q) fun _ _ q=>q) I.bare
  self:=fun _ _ _ _ _ st h=>wpAny_pyIter_zip st.1 h
theorem Inv.src{X:Cx}{pins:List (Addr×Obj)}{σ:St}{H:Hp}{s:Shared}(I:Inv X pins σ H s){a:Addr}{xs:List V}(q:SqA X.K H a xs):∃b us,SrcAt s.heap b a us:=by
  rcases q with q | q
  . obtain⟨us,r,pl,_⟩:=I.list q
    exact⟨true,_,pl.isList⟩
  . obtain⟨us,r,pl,_⟩:=I.tuple q
    exact⟨false,_,pl⟩
def iZip2(K:Fg)(ta:TA):TI:=fun σ H R=>ta σ H fun vs H1=>∃a b,vs=[.ref a,.ref b]/\(∃xss,su K H1 [a,b] xss)/\R (ItN K [a,b]) H1
theorem e_zip2{K:Fg}{ta:TA}{σ:St}{H:Hp}{R:It->Hp->Prop}:iZip2 K ta σ H R=ta σ H fun vs H1=>∃a b,vs=[.ref a,.ref b]/\(∃xss,su K H1 [a,b] xss)/\R (ItN K [a,b]) H1:=rfl
theorem Vals.three{x y z:V}{us:List Value}(r:Vals [x,y,z] us):∃u v w,us=[u,v,w]/\RelV x u/\RelV y v/\RelV z w:=by
  cases r with
  | cons r1 r=>cases r with
    | cons r2 r=>cases r with
      | cons r3 r =>
        cases r;exact⟨_,_,_,rfl,r1,r2,r3⟩
theorem zjw {X:Cx} {a b:Expr} {ta:TA} {p pos tpos:Pos} {elts:List Expr} {x1:Nat} (hg:Gl X "zip") (hm:X.mg "zip" = none) (ha:PA X [a,b] ta)
    (hs:starEach [a,b] X.env=(false,eval a X.env)::starEach [b] X.env:=by rfl) (hs2:(backTo pos (starEach [b] X.env)).any (·.1)=false:=by rfl) :
    PI X (.Tuple elts x1 tpos) (.Call (.Name "zip" p) [a,b] [] pos) (iZip2 X.K ta):=by
  intro pins s σ H R I h;refine Call_ (vi I hg hm zgl (PyProof.Rows.callWith_type1 (thn (ha pos pins s σ H _ I h) fun us s1 ⟨vs,H1,I1,r1,q1⟩ => ?_) hs hs2));obtain⟨a,b,e,⟨xss,qa⟩,q⟩:=q1;subst e;obtain⟨u,v,rfl,ru,rv⟩:=Vals.two r1;cases ru;cases rv
  match xss,qa with
  | [xa,xb],qa =>
  obtain⟨k1,y1,s1'⟩:=I1.src (qa.at' 0 a xa rfl rfl);obtain⟨k2,y2,s2'⟩:=I1.src (qa.at' 1 b xb rfl rfl);refine zei s1' s2' fun h' z1 z2 z3 z4 z5 kp => ?_
  refine wpAny_pyIter_zip (s:={ s1 with heap:=h' }) z1 ?_;have I2:Inv X pins σ H1 { s1 with heap:=h' }:=I1.kept (t':=s1.toks) kp
  have D:zaq (s1.heap.objs.size+4) (s1.heap.objs.size+2) (s1.heap.objs.size+3) [s1.heap.objs.size,s1.heap.objs.size+1]:=by
    refine⟨(by show(_:Nat)≠_;omega),(by show(_:Nat)≠_;omega),(by show(_:Nat)≠_;omega),fun it hi => ?_,?_⟩
    . simp only[ZK,Zx,or_false]at hi
      rcases hi with rfl | rfl <;> refine⟨?_,?_,?_⟩ <;> (show(_:Nat)≠_;omega)
    . simp
  refine⟨s1.heap.objs.size+4,(s1.heap.objs.size+4)::(s1.heap.objs.size+2)::(s1.heap.objs.size+3)::[s1.heap.objs.size,s1.heap.objs.size+1],_,_,H1,rfl,I2,zfz _ _ _ [s1.heap.objs.size,s1.heap.objs.size+1] [a,b] D rfl (by simp) (by simp),⟨z1,z2,⟨_,z3,rfl⟩,fun j it l e1 e2 => ?_⟩,fun e he => ?_,q⟩
  . match j with
    | 0=>simp at e1 e2;subst e1 e2;exact z4.1
    | 1=>simp at e1 e2;subst e1 e2;exact z5.1
    | j+2=>simp at e1
  have hle:s1.heap.objs.size<=e:=by
    simp only[ZK,Zx,or_false]at he
    rcases he with h | h | h | h | h <;> (rw[h];omega)
  exact I1.fpOk hle (I1.hok.fresh hle)
section
variable{σ:St}{k:Nat}{g:TG}{tt:TT}{te:TE}{H1:Hp}{Fin:List V->Hp->Prop}
theorem zha{K:Fg}{as:List Addr}{xss:List (List V)}{n:Nat}(Pv:Nat->List V->Hp->Prop)(h0:Pv 0 [] H1)(hn:∀xs∈xss,n<=xs.length)(he:∃xs∈xss,xs.length=n)(hz:∀i ys H,i<=n->Pv i ys H->ys.length<=sizeLine/\su K H as xss)
    (hs:∀i vs ys H T,i<n->vs.length=xss.length->(∀(j:Nat) (xs:List V),xss[j]? = some xs->xs[i]? = vs[j]?)->H T=none->Pv i ys H->g (.ref T) (List.replicate k none++σ) (upd H T (.tup vs)) fun σ2 H2=>σ2.drop k=σ/\tt σ2 H2 fun b H3=>if b=true then te σ2 H3 fun v H4=>Pv (i+1) (ys++[v]) H4 else Pv (i+1) ys H3)
    (hd:∀ys H,Pv n ys H->Fin ys H):sw (ItN K as) σ k g tt te H1 Fin:=by
  refine⟨fun i m ys H=>m=n-i/\i<=n/\Pv i ys H,⟨n,by simp,ZE _,h0⟩,?_⟩
  rintro i m ys H ⟨rfl,hi,p⟩
  obtain⟨q0,qa⟩:=hz i ys H hi p;refine⟨q0,?_⟩
  by_cases hlt:i<n
  . refine .inr ⟨⟨xss,qa,fun xs hx=>Zh hlt (hn xs hx)⟩,Pv (i+1),fun ys' H' p'=>⟨n-(i+1),by omega,rfl,hlt,p'⟩,fun x H' y => ?_⟩
    obtain⟨T,vs,rfl,hT,rfl,hy⟩:=y;obtain⟨l,f⟩:=hy xss qa;exact hs i vs ys _ T hlt l f hT p
  . have e:i=n:=by omega
    subst e;obtain⟨xs,hx,el⟩:=he;exact .inl ⟨⟨xss,qa,xs,hx,by omega⟩,hd ys H p⟩
end
end L2
namespace L2
open PySem PySem.Spec PyProof.Rows
theorem bx:entryFor table "dict.update.loop" = some Builtin.«dict.update.loop» := entryFor_of_tree (by kernel_rfl)
theorem m7:plainId "dict.update.loop" = true:=by decide +kernel
theorem cw:typeLookup (.type "list") "keys" = pure none:=by rw[typeLookup_type,builtinLookup_eq_fast];kernel_rfl
theorem j3{prog:Program}{w:World}{A:Around}{E:Value->Shared->Prop}{s:Shared}{a:Addr}{o:Obj}{xs:Array Value}{k:Nat}{Q:Option Value->Shared->Prop}
    (hx:s.heap.get? a=some o) (hc:o.cls=.type "list") (hdat:o.data=.seq xs k) (hd:o.dict=none) (hA:A.handled=none)
    (h:∀h' tk,(∀b o,s.heap.get? b=some o->h'.get? b=some o)->Q none { s with heap:=h',toks:=tk }) :
    wpAny (model prog w) A (getAttr? (.ref a) "keys") Q E s:=by
  obtain⟨c,dct,dat,sl⟩:=o;simp only at hc hdat hd;subst hc hdat hd;obtain⟨hp,g,d,tk,os⟩:=s;have hT:∀tk',(⟨hp,g,d,tk',os⟩:Shared).TypeIs (.ref a) "list" := fun _=>⟨_,hx,rfl⟩
  have f1:=sub_AttributeError;have f3:=F.slot_list_getattribute.lookup;have f4:=F.slot_list_getattribute.bind (.ref a);have f5:=am_list_getattr_none;unfold getAttr? getAttrBy? getAttrBy
  repeat (any_goals (first | assumption | exact hT _ | ((with_reducible show wpAny _ _ (call (Value.builtin "list.__getattribute__") _ _) _ _ _);refine call_meets F.slot_list_getattribute (hT _) am_entry_list_getattribute (F.args_list_getattribute_2 _ _) (meets_getattribute_miss_list a xs k sl "keys" _ cw (by decide) (by decide)) ⟨hx,hA,fun h' tk' e hx' => ?_⟩) | wp_step))
  obtain⟨t',u',he⟩:=hx'.there
  show wpAny _ _ (getattributeRaised _ _ _ _ _ _ _) _ _ _
  unfold getattributeRaised
  repeat (any_goals (first | assumption | wp_step))
  exact h _ _ hx'.keeps
section
variable{prog:Program}{w:World}{K:Type}[DecidableEq K]{knd:KeyKind prog w K}
def accH(ps:List (List K×Addr×Value))(i:Nat):List (List K×Addr×Value):=(ps.take i).foldl (fun xs p=>storedH xs p.1 p.2.1 p.2.2) []
theorem zca{G:List K->Addr->Prop}{xs:List (List K×Addr×Value)}{k:List K}{b:Addr}{v:Value}(h:∀x∈xs,G x.1 x.2.1)(hk:G k b):∀x∈storedH xs k b v,G x.1 x.2.1:=by
  unfold storedH
  split
  . intro x hx
    obtain⟨y,hy,rfl⟩:=Zp.mp hx;unfold putAt
    split
    . exact h y hy
    . exact h y hy
  . intro x hx
    rcases ZH.mp hx with hx | hx
    . exact h x hx
    . rw[ZC.mp hx];exact hk
theorem jv{ps:List (List K×Addr×Value)}{i:Nat}{p:List K×Addr×Value}(h:ps[i]? = some p):accH ps (i+1)=storedH (accH ps i) p.1 p.2.1 p.2.2:=by
  unfold accH;rw[Zq,h];simp
theorem zci(xs:List (List K×Addr×Value))(k:List K)(b:Addr)(v:Value):(storedH xs k b v).length<=xs.length+1:=by
  unfold storedH
  split
  . rw[Za];omega
  . rw[Zo];simp
theorem zbc(ps:List (List K×Addr×Value)):∀i,i<=ps.length->(accH ps i).length<=i
  | 0,_=>Zm _
  | i+1,h=>by
    have e:ps[i]? = some ps[i]:=Zb h;rw[jv e];exact Zd (zci _ _ _ _) (Xa (zbc ps i (by omega)))
structure ck(knd:KeyKind prog w K)(h:Heap)(items:Array Value)(ps:List (List K×Addr×Value)):Prop where
  len:items.size=ps.length
  at':∀(i:Nat) (p:List K×Addr×Value),ps[i]? = some p->∃T,items[i]? = some (.ref T)/\h.IsTuple T #[.ref p.2.1,p.2.2]/\(tupleKind knd).is h p.1 p.2.1
theorem isK{h h':Heap}{ks:List K}{a:Addr}(q:(tupleKind knd).is h ks a)(k:∀o,h.get? a=some o->h'.get? a=some o):(tupleKind knd).is h' ks a:=by
  obtain⟨o,its,n,e,r⟩:=q;exact⟨o,its,n,k o e,r⟩
theorem k8{h h':Heap}{d:Addr}{xs:List (List K×Addr×Value)}(q:h.DictOfH (tupleKind knd) d xs)(hd:∀o,h.get? d=some o->h'.get? d=some o)(hx:∀x∈xs,(tupleKind knd).is h' x.1 x.2.1):h'.DictOfH (tupleKind knd) d xs:=by
  obtain⟨o,es,ep,ho,hc,hdat,he,_,hn⟩:=q;exact⟨o,es,ep,hd o ho,hc,hdat,he,hx,hn⟩
theorem zfp{A:Around}{hB:Heap}{g:Array GenState}{dr:Drawn}{os:OsState}{d it l:Addr}{items:Array Value}{ps:List (List K×Addr×Value)}{R:Result->Shared->Prop}(hA:A.handled=none)(hu:(tupleKind knd).room A.in1)(hl:hB.IsList l items)(hP:ck knd hB items ps)(hd:hB.objs.size<=d)(hi:hB.objs.size<=it)(hdi:d≠it)(hz:ps.length<=sizeLine)
    (hR:∀h' tk,(∀c o,hB.get? c=some o->h'.get? c=some o)->h'.DictOfH (tupleKind knd) d (accH ps ps.length)->R (.ok (.ret .none)) ⟨h',g,dr,tk,os⟩) :
    ∀(k i:Nat) (h:Heap) (tk:Nat),ps.length-i=k->i<=ps.length->(∀c o,hB.get? c=some o->h.get? c=some o)->h.IsListIter it l i->h.DictOfH (tupleKind knd) d (accH ps i)->(∀x∈accH ps i,(tupleKind knd).is hB x.1 x.2.1) ->
      codeAny (model prog w) A (.builtin "dict.update.loop" ⟨[.ref d,.ref it,rawInt i,.none],[]⟩) R ⟨h,g,dr,tk,os⟩:=by
  have ltB:∀{c o},hB.get? c=some o->c<hB.objs.size:=fun e=>Heap.lt_size e
  intro k
  induction k with
  | zero =>
    intro i h tk hk hi' kp hit hD hG;have e:i=ps.length:=by omega
    subst e;refine codeAny_builtin bx ?_;rw[Around.under_plainId m7 _];have hl':h.IsList l items:=hl.at fun o e=>kp _ o e
    show wpAny _ A.in1 (pyNext (.ref it) >>= _) _ _ _
    refine wpAny_bind (wpAny_pyNext_list_end (s:=⟨h,g,dr,tk,os⟩) hA hit hl' (by rw[Array.getElem?_eq_none];rw[hP.len];exact Zm _) fun h' ext => ?_)
    replace ext:Heap.ExtBut it h h':=ext
    have kp':∀c o,hB.get? c=some o->h'.get? c=some o:=fun c o e=>ext c o (Zs (Zh (ltB e) hi)) (kp c o e)
    show wpAny _ _ (Builtin.Dict.addKeywords d [] >>= _) _ _ _
    exact wpAny_bind (wpAny_pure (wpAny_pure (hR h' tk kp' (k8 hD (fun o e=>ext d o hdi e) fun x hx=>isK (hG x hx) fun o e=>kp' _ o e))))
  | succ k ih =>
    intro i h tk hk hi' kp hit hD hG;have hlt:i<ps.length:=by omega
    have ep:ps[i]? = some ps[i]:=Zb hlt;obtain⟨T,eT,hT,hK⟩:=hP.at' i _ ep;refine codeAny_builtin bx ?_;rw[Around.under_plainId m7 _];have hl':h.IsList l items:=hl.at fun o e=>kp _ o e
    show wpAny _ A.in1 (pyNext (.ref it) >>= _) _ _ _
    refine wpAny_bind (wpAny_pyNext_list_item (s:=⟨h,g,dr,tk,os⟩) hit hl' eT fun h1 hit1 sb => ?_)
    replace sb:Heap.SameBut it h h1:=sb
    have kp1:∀c o,hB.get? c=some o->h1.get? c=some o:=fun c o e=>sb.extBut c o (Zs (Zh (ltB e) hi)) (kp c o e)
    have hD1:h1.DictOfH (tupleKind knd) d (accH ps i):=k8 hD (fun o e=>sb.extBut d o hdi e) fun x hx=>isK (hG x hx) fun o e=>kp1 _ o e
    obtain⟨oT,eoT,cT,nT,dT⟩:=hT;have hTs:(⟨h1,g,dr,tk,os⟩:Shared).TypeIs (.ref T) "tuple" := ⟨oT,kp1 _ _ eoT,cT⟩
    show wpAny _ A.in1 (holding [Value.ref T] _ >>= _) _ _ _
    refine wpAny_bind (wpAny_holding ?_);refine wpAny_bind (wpAny_tryCatch ?_);unfold Builtin.Dict.pairItems;refine wpAny_bind (wpAny_typeOf hTs ?_);rw[if_pos (by decide)];refine wpAny_bind (wpAny_seqItems (s:=⟨h1,g,dr,tk,os⟩) (kp1 _ _ eoT) dT ?_);refine wpAny_pure ?_
    show wpAny _ A.in1 (holding [Value.ref ps[i].2.1,ps[i].2.2] (dictSet d (Value.ref ps[i].2.1) ps[i].2.2)) _ _ _
    refine wpAny_holding ?_;refine wpAny_dictSet_heap (s:=⟨h1,g,dr,tk,os⟩) hu (isK hK fun o e=>kp1 _ o e) hD1 (fun h2 hD2 sb2 => ?_) (Zd (zbc ps i hi') (by omega))
    replace sb2:Heap.SameBut d h1 h2:=sb2
    have kp2:∀c o,hB.get? c=some o->h2.get? c=some o:=fun c o e=>sb2.extBut c o (Zs (Zh (ltB e) hd)) (kp1 c o e)
    rw[<-jv ep]at hD2;refine wpAny_pure ⟨plainId_quiet m7 _,?_⟩
    have:=ih (i+1) h2 (tk+(tupleKind knd).draws ps[i].1) (by omega) hlt kp2 (hit1.extBut sb2.extBut (Ne.symm hdi)) hD2 (by
      rw[jv ep]
      exact zca (G:=fun k b=>(tupleKind knd).is hB k b) hG hK)
    exact this
theorem fj {A:Around} {E:Value->Shared->Prop} {s:Shared} {l:Addr} {o:Obj} {items:Array Value} {n:Nat} {ps:List (List K×Addr×Value)} {Q:Value->Shared->Prop} (hA:A.handled=none) (hu:A.units+8<cLine) (ho:s.heap.get? l=some o) (hc:o.cls=.type "list") (hdat:o.data=.seq items n) (hdn:o.dict=none) (hP:ck knd s.heap items ps) (hz:ps.length<=sizeLine)
    (h:∀h' tk,(∀c o,s.heap.get? c=some o->h'.get? c=some o)->h'.DictOfH (tupleKind knd) s.heap.objs.size (accH ps ps.length)->Q (.ref s.heap.objs.size) { s with heap:=h',toks:=tk }) :
    wpAny (model prog w) A (call (.type "dict") [.ref l]) Q E s:=by
  refine callType_codes (Q₁:=fun obj s₁=>obj=.ref s.heap.objs.size/\s₁={ s with heap:=s.heap.push { cls:=.type "dict", data:=.dict #[] } }) F.kt_called_dict (F.kt_typeCall_dict_1 _) F.entry_dict_init (kt_code_dict_new _ ⟨rfl,rfl⟩) ?_
  rintro obj s₁ ⟨rfl,rfl⟩
  have hnew:(s.heap.push { cls:=.type "dict", data:=.dict #[] }).DictOfH (tupleKind knd) s.heap.objs.size []:=Heap.DictOfH.new s.heap;have ho':(s.heap.push { cls:=.type "dict", data:=.dict #[] }).get? l=some o:=Heap.get?_push_of_some _ ho;refine⟨⟨_,Heap.get?_push_size _ rfl,rfl⟩,F.args_dict_init_2 _ _,?_⟩;unfold Builtin.«dict.__init__»;refine wpAny_bind ?_;unfold Builtin.Dict.selfAndRest;refine wpAny_bind (wpAny_notOrdered_dict ⟨_,Heap.get?_push_size _ rfl,rfl⟩ ?_)
  show wpAny _ _ (pure (s.heap.objs.size,[Value.ref l])) _ _ _
  refine wpAny_pure ?_
  show wpAny _ _ (Builtin.Dict.updateFrom "dict.__init__" s.heap.objs.size (.ref l) [] .none) _ _ _
  unfold Builtin.Dict.updateFrom;refine wpAny_bind (wpAny_typeOf ⟨_,ho',hc⟩ ?_);rw[if_pos (by decide)];refine wpAny_bind (j3 ho' hc hdat hdn hA fun h1 tk1 k1 => ?_);rw[if_pos (by decide)];refine wpAny_bind (wpAny_rule ?_);have hl1:h1.IsList l items:=⟨o,k1 _ _ ho',hc,n,hdat⟩;have hd1:h1.get? s.heap.objs.size=some { cls:=.type "dict", data:=.dict #[] }:=k1 _ _ (Heap.get?_push_size _ rfl);have hlt:s.heap.objs.size<h1.objs.size:=Heap.lt_size hd1;refine wpAny_bind (wpAny_pyIter_list (s:=⟨h1,s.gens,s.drawn,tk1,s.os⟩) hl1 (wpAny_pure ⟨plainId_quiet m7 _,?_⟩));have kp:∀c o,s.heap.get? c=some o->(h1.push { cls:=.type "list_iterator", data:=.fields #[.ref l,.int 0 0] }).get? c=some o:=fun c o e=>Heap.get?_push_of_some _ (k1 _ _ (Heap.get?_push_of_some _ e))
  refine zfp (knd:=knd) (A:=A.in1) (hB:=s.heap) (g:=s.gens) (dr:=s.drawn) (os:=s.os) (l:=l) (items:=items) (ps:=ps) hA (tupleKind_room_in1 (A:=A.in1) (by show A.units+1+1<cLine;omega)) ⟨o,ho,hc,n,hdat⟩ hP (Zm _) (YQ hlt) (Zs hlt) hz
    (fun h' tk kp' hD=>⟨rfl,h h' tk kp' hD⟩) ps.length 0 _ tk1 (by omega) (ZE _) kp ⟨_,Heap.get?_push_size _ rfl,rfl,rfl⟩ (k8 hnew (fun o e=>Heap.get?_push_of_some _ (k1 _ _ e)) fun x hx=>by cases hx) (fun x hx=>by cases hx)
end
end L2
namespace L2
open PySem PySem.Spec PyProof.Rows
def nw(kvs:List (List Key×V)):List (List Key×V):=kvs.foldl (fun acc kv=>putK acc kv.1 kv.2) []
structure rg(H:Hp)(Ts:List Addr)(kvs:List (List Key×V)):Prop where
  len:Ts.length=kvs.length
  at':∀(i:Nat) (T:Addr) (kv:List Key×V),Ts[i]? = some T->kvs[i]? = some kv->∃b,H T=some (.tup [.ref b,kv.2])/\H b=some (.tup (kv.1.map kV))
def zhm(xs:List V)(H:Hp)(Q:VK):Prop:=∃(l:Addr) (Ts:List Addr) (kvs:List (List Key×V)),xs=[.ref l]/\H l=some (.lst (Ts.map V.ref))/\rg H Ts kvs/\∀p,H p=none->Q (.ref p) (upd H p (.dT (nw kvs)))
theorem zjk{xs:List V}{H:Hp}{Q:VK}:zhm xs H Q=∃(l:Addr) (Ts:List Addr) (kvs:List (List Key×V)),xs=[.ref l]/\H l=some (.lst (Ts.map V.ref))/\rg H Ts kvs/\∀p,H p=none->Q (.ref p) (upd H p (.dT (nw kvs))):=rfl
section
variable{X:Cx}{pins:List (Addr×Obj)}{σ:St}{H:Hp}{s:Shared}
theorem zbm(I:Inv X pins σ H s):∀{Ts:List Addr} {kvs:List (List Key×V)} {us:List Value},rg H Ts kvs->Vals (Ts.map V.ref) us->∃ps:List (List Key×Addr×Value),ck (yw X.prog X.w) s.heap us.toArray ps/\KT H kvs ps
  | [],[],us,q,r=>by
    cases r;exact⟨[],⟨rfl,fun i p e=>by simp at e⟩,.nil⟩
  | T::Ts,kv::kvs,us,q,r=>by
    rw[ZM]at r
    cases r with
    | @cons _ u _ us r0 r1 =>
      obtain⟨ps,P,k⟩:=zbm I (Ts:=Ts) (kvs:=kvs) ⟨by simpa using q.len,fun i T kv e1 e2=>q.at' (i+1) T kv (by simpa using e1) (by simpa using e2)⟩ r1;obtain⟨b,hT,hb⟩:=q.at' 0 T kv rfl rfl;obtain⟨z,its,rr,hI⟩:=(show ObjOk X.prog X.w H s.heap T (.tup [.ref b,kv.2]) from I.hok T _ hT);obtain⟨u1,u2,rfl,ru1,ru2⟩:=Vals.two rr;obtain rfl:u1=Value.ref b:=ru1;obtain rfl:u=Value.ref T:=r0;refine⟨(kv.1,b,u2)::ps,⟨by simp[<-P.len],fun i p e => ?_⟩,.cons ⟨rfl,hb,ru2⟩ k⟩
      cases i with
      | zero =>
        simp at e;subst e;obtain⟨o,e1,c1,n1,d1,_⟩:=hI;exact⟨T,by simp,⟨o,e1,c1,n1,d1⟩,ku I.hok hb⟩
      | succ i =>
        obtain⟨T',a1,a2,a3⟩:=P.at' i p (by simpa using e);exact⟨T',by simpa using a1,a2,a3⟩
  | [],kv::kvs,us,q,r=>by simpa using q.len
  | T::Ts,[],us,q,r=>by simpa using q.len
theorem kt_acc{kvs:List (List Key×V)}{ps:List (List Key×Addr×Value)}(k:KT H kvs ps):KT H (nw kvs) (accH ps ps.length):=by
  have go:∀(l:List (List Key×V)) (m:List (List Key×Addr×Value)) (a:List (List Key×V)) (b:List (List Key×Addr×Value)),KT H l m->KT H a b->KT H (l.foldl (fun acc kv=>putK acc kv.1 kv.2) a) (m.foldl (fun xs p=>storedH xs p.1 p.2.1 p.2.2) b):=by
    intro l m a b q
    induction q generalizing a b with
    | nil=>intro z;exact z
    | @cons p q ps qs h t ih =>
      intro z;obtain⟨h1,h2,h3⟩:=h;refine ih _ _ ?_
      show KT H (putK a p.1 p.2) (storedH b q.1 q.2.1 q.2.2)
      rw[<-h1];exact z.put p.1 h2 h3
  unfold accH;rw[Zt];exact go _ _ _ _ k .nil
theorem zew(kvs:List (List Key×V)):(nw kvs).length<=kvs.length:=by
  have go:∀(l a:List (List Key×V)),(l.foldl (fun acc kv=>putK acc kv.1 kv.2) a).length<=a.length+l.length:=by
    intro l
    induction l with
    | nil=>intro a;exact Zm _
    | cons p l ih =>
      intro a;have h1:=ih (putK a p.1 p.2);have h2:=u3 a p.1 p.2;simp only[Xe,ZN];omega
  have:=go kvs []
  simpa[nw] using this
theorem zg5{kvs:List (List Key×V)}(h:(kvs.map (·.1)).Nodup):nw kvs=kvs:=by
  have go:∀(l a:List (List Key×V)),((a++l).map (·.1)).Nodup->l.foldl (fun acc kv=>putK acc kv.1 kv.2) a=a++l:=by
    intro l
    induction l with
    | nil=>intro a _;simp
    | cons p l ih =>
      intro a hn
      have hno:valV a p.1=none:=by
        cases e:valV a p.1 with
        | none=>rfl
        | some v =>
          exfalso
          have hm:=zdi e;rw[Zn,Yh]at hn;exact hn.2.2 _ hm _ (by simp) rfl
      rw[Xe,ji _ hno,ih _ (by simpa using hn)];simp
  exact go kvs [] (by simpa using h)
theorem zd6(hc:X.calm=true)(hu:X.A.units+8<cLine):CallR X (.type "dict") zhm:=by
  intro pins s σ H xs us Q I r h;obtain⟨l,Ts,kvs,rfl,hl,hP,q⟩:=h;obtain⟨u,rfl,ru⟩:=re r;obtain rfl:u=Value.ref l:=ru;obtain⟨its,rv,pl,hz⟩:=I.list (SqL.of hl);obtain⟨ps,P,k⟩:=zbm I hP rv;obtain⟨o,n,e,c,d,dat⟩:=id pl;have hps:ps.length=kvs.length:=(Paired.length k).symm;have hkl:kvs.length<=sizeLine:=by rw[Za,hP.len]at hz;exact hz
  refine fj (knd:=yw X.prog X.w) (I.ok.hd hc) hu e c dat d P (by omega) fun h' tk kp hD => ?_
  have hn:H s.heap.objs.size=none:=I.hok.fresh (Zm _);refine⟨.ref s.heap.objs.size,upd H s.heap.objs.size (.dT (nw kvs)),I.laid (t':=tk) (fun b u e=>kp b u e) (Zm _) ?_,rfl,q _ hn⟩;obtain⟨ob,es,ep,g1,g2,g3,g4,_,g6⟩:=hD;have hb:=I.big;refine⟨Zd (zew kvs) hkl,?_,accH ps ps.length,(kt_acc k).keeps fun b ys e => ?_,ob,es,ep,g1,g2,g3,g4,g6⟩
  . exact beq_eq_false_iff_ne.mpr (Ye hb)
  . rw[zp (fun z=>by rw[z,hn]at e;cases e)]
    exact e
end
end L2
namespace L2
open PySem
theorem hu11{A:Around}{k:Nat}(hr:Room k A):A.units+8<cLine:=by have:=hu9 hr;omega
end L2
namespace L2
open PySem PySem.Spec PyProof.Rows
section
variable{X:Cx}{pins:List (Addr×Obj)}{σ:St}{H:Hp}{k:Nat}{f:Addr}{fd:FuncData}{ps:List Str}{sp:Sp}
theorem zg4(kf:Nat->Int){l I0 S:Addr}{xs:List V}{R:Result->Shared->Prop}(hc:X.calm=true)(F:FnOk X.prog X.w X.K X.mg X.base CX0 k f fd ps sp)(hb:Binds X.K fd ps [])(hr:Room k X.A.in1)
    (hlI:l≠I0) (hlS:l≠S) (hSI:S≠I0) (hl:SqL X.K H l xs) (fS:FpOk X pins H S) (fI:FpOk X pins H I0)
    (turn:∀i x,xs[i]? = some x->sp [x] H (fun v H'=>v=.int (kf i)/\H'=H) E0)
    (hR:∀i x u s',xs[i]? = some x->RelV x u->(∀j,j<xs.length->kf j<=kf i/\(j<i->kf j<kf i))->Inv X pins σ H s'->R (.ok (.ret u)) s') :
    ∀(r j i:Nat) (s:Shared) (x:V) (vb:Value) (tb:Tok) (c:Nat),xs.length-(j+1)=r->j+1<=xs.length->Inv X pins σ H s->s.heap.get? S=some (seqObj "list" #[vb,.int (kf i) tb] c) ->
      s.heap.IsListIter I0 l (j+1)->xs[i]? = some x->RelV x vb->i<=j->(∀j',j'<=j->kf j'<=kf i/\(j'<i->kf j'<kf i)) ->
      codeAny (model X.prog X.w) X.A (.builtin "max.loop" ⟨[.ref I0,.ref f,.ref S],[]⟩) R s:=by
  have hname:(toString "max" ++ toString ".loop" : String) = "max.loop" := by decide
  intro r
  induction r with
  | zero =>
    intro j i s x vb tb c hr' hj I hS hit hx rx hij hbest;have hin:j+1=xs.length:=by omega
    obtain⟨its,rv,pl,hz⟩:=I.list hl;have hlen:=rv.length;have W:=Walks.list (prog:=X.prog) (w:=X.w) (A:=X.A.in1) (I.ok.hd hc) I0 l hlI its.toArray;refine codeAny_builtin PySem.F.entry_max_loop ?_;rw[Around.under_plainId PySem.F.plain_max_loop _]
    show wpAny _ X.A.in1 (seqItems? (.ref S) >>= _) _ _ _
    refine wpAny_bind (wpAny_seqItems hS rfl ?_)
    show wpAny _ X.A.in1 (tryCatch (pyNext (.ref I0)) _ >>= _) _ _ _
    refine wpAny_bind (wpAny_tryCatch (W.done _ _ _ ⟨by rw[Zr,<-hlen,<-hin];exact hit,pl.isList⟩ fun h' tk' hk' => ?_));have I1:Inv X pins σ H { s with heap:=h',toks:=tk' }:=I.turned1 fI fun b o hb e=>hk' b o (by simpa using hb) e
    have hS':=hk' S _ (by simpa using hSI) hS;have s1:=Heap.SameBut.update h' S (Obj.mapSeq fun _=>(#[]:Array Value))
    show wpAny _ X.A.in1 (updateSeq S (fun _ => #[]) >>= _) _ _ _
    refine wpAny_bind ?_;refine wpAny_updateSeq hS' rfl (wpAny_bind (wpAny_letGo (wpAny_pure ?_)));exact hR i x vb _ hx rx (fun j' hj'=>hbest j' (by omega)) (I1.turned1 (t':=tk') fS fun b o hb e=>(s1.2 b hb).trans e)
  | succ r ih =>
    intro j i s x vb tb c hr' hj I hS hit hx rx hij hbest;have hlt:j+1<xs.length:=by omega
    obtain⟨its,rv,pl,hz⟩:=I.list hl;have hlen:=rv.length;have W:=Walks.list (prog:=X.prog) (w:=X.w) (A:=X.A.in1) (I.ok.hd hc) I0 l hlI its.toArray;refine codeAny_builtin PySem.F.entry_max_loop ?_;rw[Around.under_plainId PySem.F.plain_max_loop _]
    show wpAny _ X.A.in1 (seqItems? (.ref S) >>= _) _ _ _
    refine wpAny_bind (wpAny_seqItems hS rfl ?_)
    show wpAny _ X.A.in1 (tryCatch (pyNext (.ref I0)) _ >>= _) _ _ _
    refine wpAny_bind (wpAny_tryCatch (W.item (j+1) _ _ _ (by rw[Zr,<-hlen];exact hlt) ⟨hit,pl.isList⟩ fun v h' tk' hP hst' hk' => ?_));have hv:its[j+1]? = some v:=by simpa using hP
    have ey:xs[j+1]? = some xs[j+1]:=by simp[hlt]
    obtain⟨v',hv',ry⟩:=rv.get ey;rw[hv]at hv';cases hv';have I1:Inv X pins σ H { s with heap:=h',toks:=tk' }:=I.turned1 fI fun b o hb e=>hk' b o (by simpa using hb) e
    have hS':=hk' S _ (by simpa using hSI) hS;obtain⟨oI',hoI',hoc,hod⟩:=id hst'.1
    show wpAny _ X.A.in1 (tryCatch (holding [v] (call (.ref f) [v])) _ >>= _) _ _ _
    refine wpAny_bind (wpAny_tryCatch (wpAny_holding (je (fp:=[S,I0]) F hb hr I1 (fun b hb => ?_) (fun b hb => ?_) ry (turn (j+1) _ ey) fun t2 s2 I2 kp => ?_)))
    . simp only[ZK,Zx,or_false]at hb
      rcases hb with rfl | rfl
      . exact fS
      . exact fI
    . simp only[ZK,Zx,or_false]at hb
      rcases hb with rfl | rfl
      . exact⟨_,hS',fun v q=>by cases q⟩
      . exact⟨oI',hoI',fun v q=>by rw[hod]at q;cases q⟩
    have nS2:=kp S (by simp) _ hS';have nI2:=kp I0 (by simp) _ hoI';have hit2:s2.heap.IsListIter I0 l (j+1+1):=⟨oI',nI2,hoc,hod⟩
    show wpAny _ X.A.in1 (tryCatch (holding [v,.int (kf (j+1)) t2] (richCompare .Gt (.int (kf (j+1)) t2) (.int (kf i) tb) >>= _)) _ >>= _) _ _ _
    refine wpAny_bind (wpAny_tryCatch (wpAny_holding (wpAny_bind (CmpOf.ints_gt (prog:=X.prog) (w:=X.w) (A:=X.A.in1) (P:=fun i v=>∃t,v=.int (kf i) t) kf (fun i v h=>h) (j+1) i _ _ _ _ _ ⟨t2,rfl⟩ ⟨tb,rfl⟩ ?_))));refine wpAny_bind (wpAny_holding (wpAny_truthy_bool ?_));refine wpAny_bind (wpAny_letGo (wpAny_pure ?_))
    by_cases hb':kf (j+1) > kf i
    . have s1:=Heap.SameBut.update s2.heap S (Obj.mapSeq fun _ => #[v,.int (kf (j+1)) t2])
      obtain⟨c2,hc2⟩:∃c2,(s2.heap.update S (Obj.mapSeq fun _ => #[v,.int (kf (j+1)) t2])).get? S=some (seqObj "list" #[v,.int (kf (j+1)) t2] c2):=⟨_,get?_update_seq nS2 fun _ => #[v,.int (kf (j+1)) t2]⟩;simp only[hb',decide_true,if_true];refine wpAny_bind ?_;refine wpAny_updateSeq nS2 rfl (wpAny_bind (wpAny_letGo ?_));rw[hname];refine wpAny_pure ⟨plainId_quiet PySem.F.plain_max_loop _,ih (j+1) (j+1) _ _ v t2 c2 (by omega) hlt (I2.turned1 (t':=s2.toks) fS fun b o hb e=>(s1.2 b hb).trans e) hc2 ⟨oI',(s1.2 I0 hSI.symm).trans nI2,hoc,hod⟩ ey ry (Zm _) fun j' hj' => ?_⟩
      by_cases e:j'=j+1
      . subst e
        exact⟨by omega,fun _=>by omega⟩
      . have hb1:=hbest j' (by omega)
        have hb2:=hb1.1;exact⟨by omega,fun _=>by omega⟩
    . simp only[hb',decide_false,Bool.false_eq_true,if_false]
      refine wpAny_bind (wpAny_letGo ?_);rw[hname];refine wpAny_pure ⟨plainId_quiet PySem.F.plain_max_loop _,ih (j+1) i s2 x vb tb c (by omega) hlt I2 nS2 hit2 hx rx (by omega) fun j' hj' => ?_⟩
      by_cases e:j'=j+1
      . subst e
        exact⟨by omega,fun _=>by omega⟩
      . exact hbest j' (by omega)
theorem zh6(kf:Nat->Int){s:Shared}{l:Addr}{xs:List V}{Q:VK}{E:Value->Shared->Prop}(hc:X.calm=true)(F:FnOk X.prog X.w X.K X.mg X.base CX0 k f fd ps sp)(hb:Binds X.K fd ps [])(hr:Room k X.A.in1)
    (I:Inv X pins σ H s) (hl:SqL X.K H l xs) (hne:0<xs.length)
    (turn:∀i x,xs[i]? = some x->sp [x] H (fun v H'=>v=.int (kf i)/\H'=H) E0)
    (hQ:∀i x,xs[i]? = some x->(∀j,j<xs.length->kf j<=kf i/\(j<i->kf j<kf i))->Q x H) :
    wpAny (model X.prog X.w) X.A (call (.builtin "max") [.ref l] [(Str.ofString "key", .ref f)]) (EP X pins σ Q) E s:=by
  have hname:(toString "max" ++ toString ".loop" : String) = "max.loop" := by decide
  obtain⟨its,rv,pl,hz⟩:=I.list hl;have hlen:=rv.length;have hls:=pl.isList;obtain⟨ol,hol,_⟩:=id hls;have hll:l<s.heap.objs.size:=Heap.lt_size hol;refine kmk_tree PySem.F.kind_max PySem.F.plain_max PySem.F.entry_max (kmk_max_key _ _) ?_
  show wpAny _ X.A.in1 (Builtin.Builtins.bindParams "max" ["key", "default"] 0 ⟨[],[(Str.ofString "key", .ref f)]⟩ >>= _) _ _ s
  refine wpAny_bind (wpAny_of_eq (show Builtin.Builtins.bindParams "max" ["key", "default"] 0 ⟨[],[(Str.ofString "key", .ref f)]⟩=pure [some (.ref f),none] from rfl) ?_);refine wpAny_bind (wpAny_pure ?_);refine wpAny_bind (wpAny_pyIter_list hls ?_);refine wpAny_bind (wpAny_newList ?_ (ZE _));rw[hname];generalize hP:s.heap.push { cls:=.type "list_iterator", data:=.fields #[.ref l,.int 0 0] }=HP;have hS:HP.objs.size=s.heap.objs.size+1:=by rw[<-hP];exact size_push' ..
  have hlI:l≠s.heap.objs.size:=Zs hll;have hSI:HP.objs.size≠s.heap.objs.size:=by rw[hS];exact Ye (Yj _)
  have hlS:l≠HP.objs.size:=by rw[hS];exact Zs (Yp hll)
  refine wpAny_pure ⟨plainId_quiet PySem.F.plain_max_loop _,?_⟩;have old:∀b o,s.heap.get? b=some o->(HP.push (seqObj "list" #[] 0)).get? b=some o:=fun b o e=>Heap.get?_push_of_some _ (by rw[<-hP];exact Heap.get?_push_of_some _ e)
  have I0:Inv X pins σ H { s with heap:=HP.push (seqObj "list" #[] 0),toks:=s.toks }:=I.kept old
  have gI:(HP.push (seqObj "list" #[] 0)).get? s.heap.objs.size=some { cls:=.type "list_iterator", data:=.fields #[.ref l,.int 0 0] } :=
    Heap.get?_push_of_some _ (by rw[<-hP];exact Heap.get?_push_size _ rfl)
  have gS:(HP.push (seqObj "list" #[] 0)).get? HP.objs.size=some (seqObj "list" #[] 0):=Heap.get?_push_size _ rfl;have fI:FpOk X pins H s.heap.objs.size:=I.fpOk (Zm _) (I.hok.fresh (Zm _));have fS:FpOk X pins H HP.objs.size:=I.fpOk (by rw[hS];exact Yt _) (I.hok.fresh (by rw[hS];exact Yt _));have W:=Walks.list (prog:=X.prog) (w:=X.w) (A:=X.A.in1) (I.ok.hd hc) s.heap.objs.size l hlI its.toArray;refine codeAny_builtin PySem.F.entry_max_loop ?_;rw[Around.under_plainId PySem.F.plain_max_loop _]
  show wpAny _ X.A.in1 (seqItems? (.ref _) >>= _) _ _ _
  refine wpAny_bind (wpAny_seqItems gS rfl ?_)
  show wpAny _ X.A.in1 (tryCatch (pyNext (.ref s.heap.objs.size)) _ >>= _) _ _ _
  have hlist:(HP.push (seqObj "list" #[] 0)).IsList l its.toArray:=by
    obtain⟨o,e,r⟩:=hls;exact⟨o,old l o e,r⟩
  refine wpAny_bind (wpAny_tryCatch (W.item 0 _ _ _ (by rw[Zr,<-hlen];exact hne) ⟨⟨_,gI,rfl,rfl⟩,hlist⟩ fun v h' tk' hP' hst' hk' => ?_));have hv:its[0]? = some v:=by simpa using hP'
  have ey:xs[0]? = some xs[0]:=by simp[hne]
  obtain⟨v',hv',ry⟩:=rv.get ey;rw[hv]at hv';cases hv';have I1:Inv X pins σ H { s with heap:=h',toks:=tk' }:=I0.turned1 fI fun b o hb e=>hk' b o (by simpa using hb) e
  have hS':=hk' HP.objs.size _ (by simpa using hSI) gS;obtain⟨oI',hoI',hoc,hod⟩:=id hst'.1
  show wpAny _ X.A.in1 (tryCatch (holding [v] (call (.ref f) [v])) _ >>= _) _ _ _
  refine wpAny_bind (wpAny_tryCatch (wpAny_holding (je (fp:=[HP.objs.size,s.heap.objs.size]) F hb hr I1 (fun b hb => ?_) (fun b hb => ?_) ry (turn 0 _ ey) fun t2 s2 I2 kp => ?_)))
  . simp only[ZK,Zx,or_false]at hb
    rcases hb with rfl | rfl
    . exact fS
    . exact fI
  . simp only[ZK,Zx,or_false]at hb
    rcases hb with rfl | rfl
    . exact⟨_,hS',fun v q=>by cases q⟩
    . exact⟨oI',hoI',fun v q=>by rw[hod]at q;cases q⟩
  have nS2:=kp HP.objs.size (by simp) _ hS';have nI2:=kp s.heap.objs.size (by simp) _ hoI';have s1:=Heap.SameBut.update s2.heap HP.objs.size (Obj.mapSeq fun _ => #[v,.int (kf 0) t2]);obtain⟨c2,hc2⟩:∃c2,(s2.heap.update HP.objs.size (Obj.mapSeq fun _ => #[v,.int (kf 0) t2])).get? HP.objs.size=some (seqObj "list" #[v,.int (kf 0) t2] c2):=⟨_,get?_update_seq nS2 fun _ => #[v,.int (kf 0) t2]⟩
  show wpAny _ X.A.in1 (updateSeq HP.objs.size (fun _ => #[v,.int (kf 0) t2]) >>= _) _ _ _
  refine wpAny_bind ?_;refine wpAny_updateSeq nS2 rfl ?_;rw[hname];refine wpAny_pure ⟨plainId_quiet PySem.F.plain_max_loop _,zg4 kf hc F hb hr hlI hlS hSI hl fS fI turn (fun i x u s' h1 h2 h3 h4=>⟨x,H,h4,h2,hQ i x h1 h3⟩) _ 0 0 _ _ v t2 c2 rfl hne (I2.turned1 (t':=s2.toks) fS fun b o hb e=>(s1.2 b hb).trans e) hc2 ⟨oI',(s1.2 _ hSI.symm).trans nI2,hoc,hod⟩ ey ry (Zm _) fun j' hj' => ?_⟩;have e:j'=0:=by omega
  subst e;exact⟨by omega,fun _=>by omega⟩
def tMaxK(K:Fg)(sp:Sp)(ta:TA):TE:=fun σ H Q=>ta σ H fun vs H1=>∃(l:Addr) (xs:List V) (kf:Nat->Int),vs=[.ref l]/\SqL K H1 l xs/\0<xs.length /\
  (∀i x,xs[i]? = some x->sp [x] H1 (fun v H'=>v=.int (kf i)/\H'=H1) E0)/\∀i x,xs[i]? = some x->(∀j,j<xs.length->kf j<=kf i/\(j<i->kf j<kf i))->Q x H1
theorem e_maxK{K:Fg}{ta:TA}{Q:VK}:tMaxK K sp ta σ H Q=ta σ H fun vs H1=>∃(l:Addr) (xs:List V) (kf:Nat->Int),vs=[.ref l]/\SqL K H1 l xs/\0<xs.length /\
  (∀i x,xs[i]? = some x->sp [x] H1 (fun v H'=>v=.int (kf i)/\H'=H1) E0)/\∀i x,xs[i]? = some x->(∀j,j<xs.length->kf j<=kf i/\(j<i->kf j<kf i))->Q x H1:=rfl
theorem zi1 {y:Str} {e:Expr} {t:TA} {p p2 pos kpos:Pos} (F:FnAt X.prog X.w X.K X.mg X.base y k ps sp) (hr:Room (k+1) X.A) (hc:X.calm=true) (hgm:Gl X "max") (hm:X.mg "max" = none) (hg:Gl X y) (ha:PA X [e] t)
    (hdb:(y==("__debug__" : Str))=false:=by decide)
    (he:backTo pos (starEach [e] X.env)=(false,eval e X.env)::backTo pos (starEach [] X.env):=by rfl) (hpl:(backTo pos (starEach [e] X.env)).any (·.1)=false:=by rfl) :
    PE X (.Call (.Name "max" p) [e] [⟨some (Str.ofString "key"),.Name y p2,kpos⟩] pos) (tMaxK X.K sp t):=by
  intro pins s σ H Q I h;obtain⟨f,fd,hmy,hk,hb,G⟩:=F.ex;refine wpAny_Call_Name_kw (vi I hgm hm zgc ?_);refine PyProof.Rows.callWith_kw (thn (ha pos pins s σ H _ I h) fun us s1 ⟨vs,H1,I1,r1,q1⟩ => ?_) he hpl rfl rfl;obtain⟨l,xs,kf,ev,hl,hne,turn,q⟩:=q1;subst ev;obtain⟨u,rfl,ru⟩:=Vals.one r1;cases ru;refine thn ((zdp (nm:=some (Str.ofString "key")) (kpos:=kpos) (cn (v:=.ref f) hg hmy rfl hdb) zfm) pos pins s1 σ H1 (fun zs H2=>zs=[.ref f]/\H2=H1) I1 ⟨rfl,rfl⟩) fun ws s2 ⟨zs,H2,I2,rz,ez,eh⟩ => ?_
  subst ez eh;obtain⟨w1,rfl,rw1⟩:=Vals.one rz;cases rw1;exact zh6 kf hc G hb hr.in1 I2 hl hne turn q
end
end L2
namespace L2
open PySem PySem.Spec PyProof.Rows
section
variable{X:Cx}
theorem zdo{κ:Type}[DecidableEq κ]:∀{kvs:List (κ×V)} {k:κ} {v:V},(kvs.map (·.1)).Nodup->(k,v)∈kvs->valV kvs k=some v
  | [],_,_,_,h=>by cases h
  | p::r,k,v,hn,h=>by
    rw[ZM,ZQ]at hn
    rcases ZK.mp h with e | h
    . subst e
      exact r9 rfl
    . have hne:¬p.1=k:=fun e=>hn.1 (by rw[e];exact Zp.mpr ⟨(k,v),h,rfl⟩)
      rw[tj hne];exact zdo hn.2 h
end
end L2
namespace L2
open PySem PySem.Spec PyProof.Rows
section
variable{X:Cx}
end
end L2
namespace L2
open PySem PySem.Spec PyProof.Rows
section
variable{X:Cx}{pins:List (Addr×Obj)}{σ:St}{H2:Hp}{s₂:Shared}{scope:Scope}{ts N2:List Str}{cl:List (Str×Addr)}{C D:Addr}{fp:List Addr}
end
end L2
namespace L2
open PySem PySem.Spec PyProof.Rows
theorem e_dg1{td ty:TE}{σ:St}{H:Hp}{Q:VK}:zgw td ty σ H Q=td σ H fun x H1=>∃a,x=.ref a/\IsD H1 a/\ty σ H1 fun y H2=>∃o,DGet H2 a y o/\Q (o.getD .non) H2:=rfl
end L2
namespace L2
open PySem PySem.Spec PyProof.Rows
section
variable{X:Cx}
end
end L2
namespace L2
open PySem PySem.Spec PyProof.Rows
section
variable{M:Model}{A:Around}{E:Value->Shared->Prop}{s:Shared}
end
section
variable{X:Cx}{pins:List (Addr×Obj)}{σ:St}{H:Hp}{s:Shared}
end
section
variable{X:Cx}{pins:List (Addr×Obj)}{σ:St}{H2:Hp}{s₂:Shared}{scope:Scope}{ts N2:List Str}{cl:List (Str×Addr)}{C D:Addr}{fp:List Addr}
end
end L2
namespace L2
open PySem PySem.Spec PyProof.Rows
section
variable{X:Cx}
end
end L2
namespace L2
open PySem PySem.Spec PyProof.Rows
end L2
namespace L2
open PySem PySem.Spec PyProof.Rows
def TupIn(K:Fg)(mg:Str->Option Value)(name:Str)(xs:List V):Prop:=∃p,mg name=some (.ref p)/\∀H,SqT K H p xs
theorem tup_mk {K:Fg} {h:Heap} {mg:Str->Option Value} (X:K.In h) (G:h.Ns mainGlobals mg) {name:Str} {p:Addr} {od:Option Addr} {its:Array Value} {n:Nat} {osl:Array (Option Value)} {xs:List V} (e:PySem.W.nsIn K mainGlobals name=some (some (.ref p))) (l:K.lookup p=some ⟨.type "tuple", od,.seq its n,osl⟩) (hz:its.size<=sizeLine) (r:Vals xs its.toList):TupIn K mg name xs :=
  ⟨p,PySem.W.mg_of X G e,fun H=>.inr ⟨_,its,n,l,rfl,rfl,hz,r⟩⟩
end L2
namespace L2
open PySem PySem.Spec PyProof.Rows
section
variable{X:Cx}
end
section
variable{a b c d t e u:TS}{tc:TT}{D:Ends}{σ:L2.St}{H:Hp}
theorem av(h:∀T:TS,T=t->tSeq a T D σ H):tSeq a t D σ H:=h t rfl
theorem hide3(h:∀T:TS,T=t->tSeq a (tSeq b (tSeq c T)) D σ H):tSeq a (tSeq b (tSeq c t)) D σ H:=h t rfl
theorem hide4(h:∀T:TS,T=t->tSeq a (tSeq b (tSeq c (tSeq d T))) D σ H):tSeq a (tSeq b (tSeq c (tSeq d t))) D σ H:=h t rfl
end
end L2
namespace L2
open PySem PySem.Spec PyProof.Rows
section
variable{P:Program}{w:World}{A:Around}{E:Value->Shared->Prop}{s:Shared}
def RawAt(h:Heap)(d:Addr)(es:Array DictEntry)(ep:Nat):Prop:=∃o,h.get? d=some o/\o.ExactDict/\o.data=.dict es ep
theorem RawAt.ty{d:Addr}{es:Array DictEntry}{ep:Nat}(x:RawAt s.heap d es ep):s.TypeIs (.ref d) "dict" := let ⟨o,ho,hc,_⟩:=x;⟨o,ho,hc.1⟩
theorem RawAt.mv{h h':Heap}{d:Addr}{es:Array DictEntry}{ep:Nat}(x:RawAt h d es ep)(k:∀o,h.get? d=some o->h'.get? d=some o):RawAt h' d es ep:=let ⟨o,ho,r⟩:=x;⟨o,k _ ho,r⟩
theorem zhy{d:Addr}{es:Array DictEntry}{ep:Nat}{Q:Value->Shared->Prop}(hd:(d==sysModules)=false)(hm:RawAt s.heap d es ep)
    (hQ:Q (.ref s.heap.objs.size) { s with heap:=s.heap.push { cls:=.type "dict_keyiterator", data:=.fields #[.ref d,.int 0 0,.int es.size 0,.int ep 0] } }) :
    wpAny (model P w) A (pyIter (.ref d)) Q E s:=by
  obtain⟨o,ho,hc,hdat⟩:=id hm;refine wpAny_pyIter_slot hm.ty F.slot_dict_iter (wpAny_call_entry F.slot_dict_iter hm.ty F.entry_dict_iter ?_ (F.args_dict_iter_1 _));unfold Builtin.«dict.__iter__»;refine wpAny_bind ?_;unfold Builtin.Dict.dictSlotNone;refine wpAny_bind (wpAny_notOrdered_dict hm.ty ?_)
  show wpAny _ _ (pure (Value.ref d)) _ _ s
  refine wpAny_pure ?_
  show wpAny _ _ (Builtin.Dict.showsAll d >>= _) _ _ s
  unfold Builtin.Dict.showsAll;rw[if_neg (by rw[hd];exact Bool.false_ne_true)];refine wpAny_bind (wpAny_pure (wpAny_bind (wpAny_dictEntries ho hdat (wpAny_bind (wpAny_dictEpoch ho hdat ?_)))));refine wpAny_bind (wpAny_newObj_type (wpAny_pure ⟨_,rfl, "dict_keyiterator", _,⟨_,Heap.get?_push_size _ rfl,rfl⟩,F.slot_dict_keyiterator_next.lookup,?_⟩))
  simpa[rawInt] using hQ
theorem zhs{it d:Addr}{i ep:Nat}{es:Array DictEntry}{Q:Option Value->Shared->Prop}(hit:s.heap.IsKeyIter it d i es.size ep)(hm:RawAt s.heap d es ep)(hi:i<es.size)
    (hQ:∀h',h'.IsKeyIter it d (i+1) es.size ep->Heap.SameBut it s.heap h'->Q (some es[i].key) { s with heap:=h' }):wpAny (model P w) A (pyNext (.ref it)) Q E s:=by
  obtain⟨o,ho,hc,hd⟩:=id hit;obtain⟨od,hod,hcd,hdd⟩:=id hm;have hown:Builtin.Dict_items.ownsTuple "dict_keyiterator" = false:=by decide
  unfold pyNext
  refine wpAny_bind (wpAny_attempt (wpAny_callSpecial?_slot (name:=Str.ofString "__next__") hit.typeIs F.slot_dict_keyiterator_next
    (wpAny_call_entry F.slot_dict_keyiterator_next hit.typeIs F.entry_dict_keyiterator_next ?_ (F.args_dict_keyiterator_next_1 _))))
  refine wpAny_bind (wpAny_pure (wpAny_bind (wpAny_bind ?_)))
  first | refine wpAny_bind (wpAny_typeNameOfWhole_keyiter hit.typeIs (wpAny_pure ?_)) | refine wpAny_bind (wpAny_typeNameOf_keyiter hit.typeIs (wpAny_pure ?_))
  refine wpAny_bind (wpAny_fieldsOf ho hd ?_);simp only[hown,Bool.false_eq_true,if_false]
  show wpAny _ _ (if (Value.ref d==Value.none)=true then _ else _) _ _ s
  rw[if_neg (show ¬((Value.ref d==Value.none)=true) from Bool.false_ne_true)];refine wpAny_bind (wpAny_pure (wpAny_bind (wpAny_dictEntries hod hdd ?_)));rw[if_neg (by simp)];refine wpAny_bind (wpAny_pure (wpAny_bind (wpAny_dictEpoch hod hdd ?_)));rw[if_neg (by simp)];refine wpAny_pure ?_;simp only[show ¬((i:Int)<0) from by omega,if_false,Zw,Array.getElem?_eq_getElem hi];refine wpAny_bind ?_
  first | refine wpAny_bind (wpAny_typeNameOfWhole_keyiter hit.typeIs (wpAny_pure ?_)) | refine wpAny_bind (wpAny_typeNameOf_keyiter hit.typeIs (wpAny_pure ?_))
  refine wpAny_bind (wpAny_isOneOf_keyiter hit.typeIs ?_)
  show wpAny _ _ (setField (.ref it) 1 (rawInt ((i:Int)+1)) >>= _) _ _ s
  refine wpAny_bind (wpAny_setField ho hd (by simp) ?_)
  have hit':(s.heap.update it (Obj.mapFields (·.setIfInBounds 1 (rawInt ((i:Int)+1))))).IsKeyIter it d (i+1) es.size ep :=
    ⟨_,Heap.get?_update_self _ ho (Obj.isFreed_of_fields (Obj.data_mapFields hd _)),(Obj.cls_mapFields ..).trans hc,by rw[Obj.data_mapFields hd];simp[rawInt]⟩
  refine wpAny_bind (wpAny_holding (wpAny_bind (wpAny_isOneOf_keyiter (s:={ s with heap:=s.heap.update it (Obj.mapFields (·.setIfInBounds 1 (rawInt ((i:Int)+1)))) }) hit'.typeIs ?_)))
  show wpAny _ _ (pure es[i].key) _ _ _
  exact wpAny_pure (wpAny_pure ⟨_,rfl,wpAny_pure (hQ _ hit' (Heap.SameBut.update ..))⟩)
theorem zjc{it d:Addr}{ep:Nat}{es:Array DictEntry}{Q:Option Value->Shared->Prop}(hh:A.handled=none)(hit:s.heap.IsKeyIter it d es.size es.size ep)(hm:RawAt s.heap d es ep)
    (hQ:∀h',Heap.ExtBut it s.heap h'->Q none { s with heap:=h' }):wpAny (model P w) A (pyNext (.ref it)) Q E s:=by
  obtain⟨o,ho,hc,hd⟩:=id hit;obtain⟨od,hod,hcd,hdd⟩:=id hm;have hown:Builtin.Dict_items.ownsTuple "dict_keyiterator" = false:=by decide
  unfold pyNext
  refine wpAny_bind (wpAny_attempt (wpAny_callSpecial?_slot (name:=Str.ofString "__next__") hit.typeIs F.slot_dict_keyiterator_next
    (wpAny_call_entry F.slot_dict_keyiterator_next hit.typeIs F.entry_dict_keyiterator_next ?_ (F.args_dict_keyiterator_next_1 _))))
  refine wpAny_bind (wpAny_pure (wpAny_bind (wpAny_bind ?_)))
  first | refine wpAny_bind (wpAny_typeNameOfWhole_keyiter hit.typeIs (wpAny_pure ?_)) | refine wpAny_bind (wpAny_typeNameOf_keyiter hit.typeIs (wpAny_pure ?_))
  refine wpAny_bind (wpAny_fieldsOf ho hd ?_);simp only[hown,Bool.false_eq_true,if_false]
  show wpAny _ _ (if (Value.ref d==Value.none)=true then _ else _) _ _ s
  rw[if_neg (show ¬((Value.ref d==Value.none)=true) from Bool.false_ne_true)];refine wpAny_bind (wpAny_pure (wpAny_bind (wpAny_dictEntries hod hdd ?_)));rw[if_neg (by simp)];refine wpAny_bind (wpAny_pure (wpAny_bind (wpAny_dictEpoch hod hdd ?_)));rw[if_neg (by simp)];refine wpAny_pure ?_;simp only[show ¬((es.size:Int)<0) from by omega,if_false,Zw,Array.getElem?_eq_none (Zm es.size)];refine wpAny_bind ?_
  first | refine wpAny_bind (wpAny_typeNameOfWhole_keyiter hit.typeIs (wpAny_pure ?_)) | refine wpAny_bind (wpAny_typeNameOf_keyiter hit.typeIs (wpAny_pure ?_))
  show wpAny _ _ (setField (.ref it) 0 .none >>= _) _ _ s
  refine wpAny_bind (wpAny_setField ho hd (by simp) ?_)
  show wpAny _ _ (newExc (.type "StopIteration") [] >>= _) _ _ _
  refine wpAny_bind ?_;simp only[newExc,newTuple];refine wpAny_bind (wpAny_newObj_type ?_ (by size_fits));refine wpAny_bind (m:=firstArgMember _ _) (wpAny_of_eq (a:=Value.none) (by first | rfl | (simp only[firstArgMember];rfl)) ?_);refine wpAny_newObj_type ?_ (by size_fits);simp only[raiseNew];refine wpAny_bind (wpAny_handled ?_);rw[show A.in1.handled=none from hh];refine wpAny_bind (wpAny_pure (wpAny_throw ?_));refine wpAny_bind (wpAny_isInstance (T := "StopIteration") (b:=true) ⟨_,Heap.get?_push_size _ rfl,rfl⟩ isSubtype_stop ?_);exact wpAny_pure (hQ _ (((Heap.SameBut.update ..).extBut.push _).push _))
end
def mh(H:Hp)(kvs:List (List Key×V))(as:List Addr):Prop:=Paired (fun(p:List Key×V) (a:Addr)=>H a=some (.tup (p.1.map kV))) kvs as
def rListT(xs:List V)(H:Hp)(Q:VK):Prop:=∃(a:Addr) (kvs:List (List Key×V)),xs=[.ref a]/\H a=some (.dT kvs)/\∀as,mh H kvs as->∀p,H p=none->Q (.ref p) (upd H p (.lst (as.map V.ref)))
theorem zjh{xs:List V}{H:Hp}{Q:VK}:rListT xs H Q=∃(a:Addr) (kvs:List (List Key×V)),xs=[.ref a]/\H a=some (.dT kvs)/\∀as,mh H kvs as->∀p,H p=none->Q (.ref p) (upd H p (.lst (as.map V.ref))):=rfl
section
variable{X:Cx}
end
theorem zd1(n:Nat):sliceRange ((n:Int)-1) (-1) (-1)=(List.range n).map fun k=>n-1-k:=by
  unfold sliceRange;simp only[show ¬((-1:Int) > 0) by decide,if_false,show-(-1:Int)=1 by decide,Int.ediv_one]
  have hc:(if ((n:Int)-1 > -1) then((n:Int)-1 - -1 - -1-1) else 0).toNat=n:=by
    split <;> omega
  rw[hc];refine Yw fun k _ => ?_
  omega
theorem d9{α β:Type}{f:α->Option β}{g:α->β}:∀{l:List α},(∀a∈l,f a=some (g a))->l.filterMap f=l.map g
  | [],_=>rfl
  | a::l,h=>by rw[Yv,h a (by simp),ZM,d9 fun b hb=>h b (by simp[hb])]
theorem zgg(its:List Value):slicePick its.toArray none none (some (-1))=its.reverse.toArray:=by
  have hb:sliceBounds none none (some (-1)) its.toArray.size=(((its.length:Nat):Int)-1,-1,-1):=by simp[sliceBounds]
  unfold slicePick;rw[hb,zd1,YW]
  congr 1
  rw[d9 (g:=fun k=>its.getD (its.length-1-k) .none) fun k hk => ?_]
  . refine List.ext_getElem (by simp) fun i h1 h2 => ?_
    have hi:i<its.length:=by simpa using h2
    have hj:its.length-1-i<its.length:=by omega
    simp[Zb hj]
  . have hi:k<its.length:=ZV.mp hk
    have hj:its.length-1-k<its.length:=by omega
    simp[Zb hj]
section
variable{X:Cx}{e st:Expr}{te:TE}{ts:TO}{pos p2:Pos}
def tDown(K:Fg)(te:TE)(ts:TO):TE:=fun σ H Q=>te σ H fun x H1=>ts σ H1 fun k H2=>k=some (-1)/\∃a xs,x=.ref a/\SqL K H2 a xs/\∀p,H2 p=none->Q (.ref p) (upd H2 p (.lst xs.reverse))
theorem zhq{xs:List V}{vs:List Value}(r:Vals xs vs):Vals xs.reverse vs.reverse:=by
  induction r with
  | nil=>exact .nil
  | @cons x v xs vs h _ ih =>
    rw[YF,YF];exact ih.append (.cons h .nil)
theorem e_down{K:Fg}{σ:St}{H:Hp}{Q:VK}:tDown K te ts σ H Q=te σ H fun x H1=>ts σ H1 fun k H2=>k=some (-1)/\∃a xs,x=.ref a/\SqL K H2 a xs/\∀p,H2 p=none->Q (.ref p) (upd H2 p (.lst xs.reverse)):=rfl
end
end L2
namespace L2
open PySem PySem.Spec PyProof.Rows
def Itk(a:Addr)(o:Obj)(u:HO)(as:List Addr):It :=
  ⟨fun i H=>H a=some (.frz o u)/\i<as.length,fun i H x H'=>H'=H/\∃c,as[i]? = some c/\x=.ref c,fun i H=>H a=some (.frz o u)/\i=as.length⟩
theorem zdz{P:Program}{w:World}{K:Fg}{tg:Expr}{a it:Addr}{o:Obj}{u:HO}{as:List Addr}{es:Array DictEntry}{ep:Nat}(hx:o.ExactDict)(hd:o.data=.dict es ep)(hn:es.size=as.length)
    (hk:∀(i:Nat) (e:DictEntry),es[i]? = some e->∃c,as[i]? = some c/\e.key=.ref c):Turn P w K tg (Itk a o u as) [it] it (fun i h=>h.IsKeyIter it a i es.size ep) where
  mem:=by simp
  obj:=fun i h st b hb=>by
    have e:b=it:=by simpa using hb
    subst e;obtain⟨o,e,c,d⟩:=st;exact⟨o,e,fun v z=>by rw[d]at z;cases z⟩
  keep:=fun i h h' st k=>st.at fun o e=>k it (by simp) o e
  item:=by
    intro X hP hw hK hc i pins s σ H E I hf st hg;subst hP hw hK;obtain⟨h1,h2⟩:=hg;obtain⟨ho,_⟩:=(show ObjOk X.prog X.w H s.heap a (.frz o u) from I.hok a _ h1);obtain⟨f0,f1,f2,f3,f4,f5⟩:=hf it (by simp);refine zhs st ⟨o,ho,hx,hd⟩ (by rw[hn];exact h2) fun h' st' sb => ?_
    obtain⟨c,hc1,hc2⟩:=hk i es[i] (by simp);have I1:Inv X pins σ H { s with heap:=h' }:=I.turned (t':=s.toks) (fun b o hb e=>(sb.2 b hb).trans e) f0 f1 f3 f4 f5;obtain⟨o',e,c',d⟩:=id st';exact⟨_,rfl,ip (s:={ s with heap:=h' }) e c' d (by decide) ⟨.ref c,H,I1,hc2,⟨rfl,c,hc1,rfl⟩,st',fun b hb=>(hf b hb).1⟩⟩
  done:=by
    intro X hP hw hK hc i pins s σ H E I hf st hg;subst hP hw hK;obtain⟨h1,rfl⟩:=hg;obtain⟨ho,_⟩:=(show ObjOk X.prog X.w H s.heap a (.frz o u) from I.hok a _ h1);obtain⟨f0,f1,f2,f3,f4,f5⟩:=hf it (by simp);rw[<-hn]at st;exact zjc (I.ok.hd hc) st ⟨o,ho,hx,hd⟩ fun h' eb=>⟨rfl,I.turned (t':=s.toks) (fun b o hb e=>eb b o hb e) f0 f1 f3 f4 f5⟩
  self:=fun _ _ _ _ _ st h=>wpAny_pyIter_keyiter st h
section
variable{X:Cx}{tg:Expr}
def iDicT(tl:TE):TI:=fun σ H R=>tl σ H fun x H1=>∃a kvs,x=.ref a/\H1 a=some (.dT kvs)/\∀o as,mh H1 kvs as->R (Itk a o (.dT kvs) as) (upd H1 a (.frz o (.dT kvs)))
theorem zi8{tl:TE}{σ:St}{H:Hp}{R:It->Hp->Prop}:iDicT tl σ H R=tl σ H fun x H1=>∃a kvs,x=.ref a/\H1 a=some (.dT kvs)/\∀o as,mh H1 kvs as->R (Itk a o (.dT kvs) as) (upd H1 a (.frz o (.dT kvs))):=rfl
theorem zil{l:Expr}{tl:TE}(hl:PE X l tl):PI X tg l (iDicT tl):=by
  intro pins s σ H R I h;refine thn (hl pins s σ H _ I h) fun v s1 ⟨x,H1,I1,r1,q1⟩ => ?_
  obtain⟨a,kvs,e,ha,q⟩:=q1;subst e;obtain rfl:v=Value.ref a:=r1;obtain⟨z,hd,xs,rel,o,es,ep,ho,hce,hdat,he,nd⟩:=(show ObjOk X.prog X.w H1 s1.heap a (.dT kvs) from I1.hok a _ ha);have hsz:es.size=(xs.map fun y=>y.2.1).length:=by rw[size_of_entries he,Za]
  have hk:mh H1 kvs (xs.map fun y=>y.2.1):=by
    have go:∀{l:List (List Key×V)} {m:List (List Key×Addr×Value)},KT H1 l m->mh H1 l (m.map fun y=>y.2.1):=by
      intro l m t
      induction t with
      | nil=>exact .nil
      | cons h _ ih=>exact .cons h.2.1 ih
    exact go rel
  have hkey:∀(i:Nat) (e:DictEntry),es[i]? = some e->∃c,(xs.map fun y=>y.2.1)[i]? = some c/\e.key=.ref c:=fun i e h2=>by
    rw[entry_at he]at h2;rw[Ze]
    cases hy:xs[i]? with
    | none=>rw[hy]at h2;cases h2
    | some y=>rw[hy]at h2;cases h2;exact⟨_,rfl,rfl⟩
  have I2:Inv X pins σ (upd H1 a (.frz o (.dT kvs))) s1:=by
    refine iw (h':=s1.heap) (t':=s1.toks) I1 (by rw[ha];exact True.intro) ⟨rfl,fun _ _=>rfl⟩ ⟨o,ho⟩ ⟨ho,z,hd,xs,?_,o,es,ep,ho,hce,hdat,he,nd⟩;refine Paired.mapP rel fun p q y=>⟨y.1,?_,y.2.2⟩
    rw[zp (fun e=>by have:=y.2.1;rw[e,ha]at this;cases this)];exact y.2.1
  refine zhy hd ⟨o,ho,hce,hdat⟩ ?_;refine⟨s1.heap.objs.size,[s1.heap.objs.size],_,_,_,rfl,I2.kept (t':=s1.toks) fun b o e=>Heap.get?_push_of_some _ e,zdz hce hdat hsz hkey,⟨_,Heap.get?_push_size _ rfl,rfl,rfl⟩,fun b hb => ?_,q o _ hk⟩;have e:b=s1.heap.objs.size:=by simpa using hb
  subst e;exact I2.fpOk (Zm _) (I2.hok.fresh (Zm _))
theorem zf4{a:Addr}{ob:Obj}{u:HO}{as:List Addr}{g:TG}{tb:TS}{D:Ends}{σ:St}{H:Hp}(Pv:Nat->St->Hp->Prop)(h0:Pv 0 σ H)(hl:∀i σ H,i<=as.length->Pv i σ H->H a=some (.frz ob u))
    (hs:∀i c σ H,as[i]? = some c->Pv i σ H->g (.ref c) σ H fun σ2 H2=>tb { D with nx:=Pv (i+1),ct:=Pv (i+1),bk:=D.nx } σ2 H2) (hd:∀σ H,Pv as.length σ H->D.nx σ H):ForW (Itk a ob u as) g tb D σ H:=by
  refine⟨fun i m σ H=>m=as.length-i/\i<=as.length/\Pv i σ H,⟨as.length,by simp,ZE _,h0⟩,?_⟩
  rintro i m σ H ⟨rfl,hi,p⟩
  have q:=hl i σ H hi p
  by_cases hlt:i<as.length
  . refine .inr ⟨⟨q,hlt⟩,Pv (i+1),fun σ' H' p'=>⟨as.length-(i+1),by omega,rfl,hlt,p'⟩,fun x H' y => ?_⟩
    obtain⟨rfl,c,hc,rfl⟩:=y;exact hs i c σ _ hc p
  . have e:i=as.length:=by omega
    subst e;exact .inl ⟨⟨q,rfl⟩,hd σ H p⟩
end
end L2
namespace L2
open PySem PySem.Spec PyProof.Rows
section
variable{prog:Program}{w:World}{K:Type}[DecidableEq K]{knd:KeyKind prog w K}
end
section
variable{X:Cx}{pins:List (Addr×Obj)}{σ:St}{H:Hp}{s:Shared}
end
end L2
namespace L2
open PySem PySem.Spec PyProof.Rows
section
variable{prog:Program}{w:World}{K:Type}[DecidableEq K]{knd:KeyKind prog w K}{A:Around}{E:Value->Shared->Prop}{s:Shared}
end
section
variable{X:Cx}
end
end L2
namespace L2
open PySem PySem.Spec PyProof.Rows AutoSeq1
set_option maxHeartbeats 1000000 in
section
variable{prog:Program}{w:World}{A:Around}{E:Value->Shared->Prop}{s:Shared}
end
section
variable{σ:St}{k:Nat}{g:TG}{tt:TT}{te:TE}{H1:Hp}{Fin:List V->Hp->Prop}
end
end L2
namespace L2
open PySem PySem.Spec PyProof.Rows
section
variable{X:Cx}{c e:Expr}{te:TE}{x:Str}{p2 pos:Pos}
end
section
variable{X:Cx}
end
end L2
namespace L2
open PySem PySem.Spec PyProof.Rows
theorem Inv.thaw{X:Cx}{pins:List (Addr×Obj)}{σ:St}{H:Hp}{s:Shared}{d:Addr}{o:Obj}{u:HO}(I:Inv X pins σ H s)(hd:H d=some (.frz o u))(h0:∀o u,X.H₀ d≠some (.frz o u)):Inv X pins σ (upd H d u) s:=by
  have nd:∀b,H b=none->b≠d:=fun b e z=>by rw[z,hd]at e;cases e
  have ht:∀b xs,H b=some (.tup xs)->upd H d u b=some (.tup xs):=fun b xs e=>by
    rw[zp (fun z=>by rw[z,hd]at e;cases e)];exact e
  have hw:∀b a,H b=some (.own a)->upd H d u b=some (.own a):=fun b a e=>by
    rw[zp (fun z=>by rw[z,hd]at e;cases e)];exact e
  refine⟨I.ok,I.os,I.bare,⟨I.base.keep,I.base.slot,fun b ob e n hx => ?_,I.base.there,fun b xs e=>ht b xs (I.base.tups b xs e),fun b ob v e => ?_,fun b ps e => ?_⟩,I.loc,I.cell,?_,fun x c e => ?_,fun p hp => ?_,fun b ob e => ?_,I.len⟩
  . have:=I.base.free b ob e n hx
    rw[zp (nd b this)];exact this
  . have:=I.base.frzs b ob v e
    rw[zp (fun z=>by rw[z]at e;exact h0 _ _ e)];exact this
  . obtain⟨more,h⟩:=I.base.tbls b ps e
    refine⟨more,?_⟩;rw[zp (fun z=>by rw[z,hd]at h;cases h)];exact h
  . rw[zp (nd _ I.free)]
    exact I.free
  . have:=I.freeC x c e
    rw[zp (nd _ this)];exact this
  . obtain⟨h1,h2,h3⟩:=I.pin p hp
    exact⟨h1,by rw[zp (nd _ h2)];exact h2,h3⟩
  . by_cases z:b=d
    . subst z
      rw[zc]at e;cases e;exact(show ObjOk X.prog X.w H s.heap b (.frz o u) from I.hok b _ hd).2.stay (fun c w _ q=>q) (fun c q=>hw c b q) ht
    . rw[zp z]at e
      exact(I.hok b ob e).stay (fun c w _ q=>q) (fun c q=>hw c b q) ht
def Iti(a:Addr)(ob:Obj)(kvs:List (Key×V)):It :=
  ⟨fun i H=>H a=some (.frz ob (.dK kvs))/\i<kvs.length,fun i H v H'=>∃T kv,kvs[i]? = some kv/\v=.ref T/\H T=none/\H'=upd H T (.tup [kV kv.1,kv.2]),fun i H=>H a=some (.frz ob (.dK kvs))/\kvs.length<=i⟩
theorem is_kV{P:Program}{w:World}{k:Key}{u:Value}(h:(yw P w).is k u=true):RelV (kV k) u:=by
  rw[zed]at h
  rcases xh h with ⟨i,t,rfl,rfl⟩ | ⟨x,t,rfl,rfl⟩
  . exact⟨t,rfl⟩
  . exact⟨t,rfl⟩
theorem ib{P:Program}{w:World}{h:Heap}{d:Addr}{vs:List (Key×Value)}{o:Obj}{es:Array DictEntry}{ep:Nat}(hD:h.DictOf (yw P w) d vs)(ho:h.get? d=some o)(hd:o.data=.dict es ep):h.DictAt (yw P w) d vs ep:=by
  obtain⟨o',es',ep',h1,h2,h3,h4⟩:=hD;rw[ho]at h1;cases h1;rw[hd]at h3;cases h3;exact⟨o,es,ho,h2,hd,h4⟩
theorem zhc:∀{kvs:List (Key×V)} {vs:List (Key×Value)} {i:Nat} {p:Key×V} {k:Key} {v:Value},KV kvs vs->kvs[i]? = some p->vs[i]? = some (k,v)->p.1=k/\RelV p.2 v
  | _,_,i,p,k,v,.cons h t,e1,e2=>by
    cases i with
    | zero =>
      simp at e1 e2;subst e1;rw[e2]at h;exact h
    | succ i=>exact zhc t (by simpa using e1) (by simpa using e2)
  | _,_,i,p,k,v,.nil,e1,e2=>by simp at e1
theorem zeu{P:Program}{w:World}{K:Fg}{elts:List Expr}{x1:Nat}{pos:Pos}{a it:Addr}{ob:Obj}{kvs:List (Key×V)}{es:Array DictEntry}{ep n:Nat}(hd:ob.data=.dict es ep)(hn:n=kvs.length) :
    Turn P w K (.Tuple elts x1 pos) (Iti a ob kvs) [it] it (fun i h=>∃ok ov,IsItemIter h it a i n ep ok ov) where
  mem:=by simp
  obj:=fun i h st b hb=>by
    have e:b=it:=by simpa using hb
    subst e;obtain⟨ok,ov,e⟩:=st;exact⟨_,e,fun v z=>by cases z⟩
  keep:=fun i h h' st k=>by
    obtain⟨ok,ov,e⟩:=st;exact⟨ok,ov,k it (by simp) _ e⟩
  item:=by
    intro X hP hw hK hc i pins s σ H E I hf st hg;subst hP hw hK;obtain⟨h1,h2⟩:=hg;obtain⟨ok,ov,hit⟩:=st;obtain⟨ho,z,hs,vs,rel,hD⟩:=(show ObjOk X.prog X.w H s.heap a (.frz ob (.dK kvs)) from I.hok a _ h1);have hA:=ib hD ho hd;have lv:vs.length=kvs.length:=rel.length.symm;have ek:kvs[i]? = some kvs[i]:=Zb h2;obtain⟨k,v,ev⟩:∃k v,vs[i]? = some (k,v):=⟨_,_,Zb (by omega)⟩;obtain⟨e1,e2⟩:=zhc rel ek ev;rw[hn,<-lv]at hit;refine wpAny_pyNext_items_item hit hA ev fun key h' hkey a1 a3 a4 hk => ?_
    have ltT:∀{c o},s.heap.get? c=some o->c≠s.heap.objs.size:=fun q=>Zs (Heap.lt_size q)
    have hTe:s.heap.objs.size≠it:=Ne.symm (ltT hit);refine⟨_,rfl,wpAny_letOwnedTupleGo_items (s:={ s with heap:=h' }) a1 fun h'' b1 sb => ?_⟩
    replace sb:Heap.SameBut it h' h'':=sb
    have I1:Inv X pins σ (upd H s.heap.objs.size (.tup [kV kvs[i].1,kvs[i].2])) { s with heap:=h'' }:=I.turnedLaid (t':=s.toks) (ch:=[it]) hf (fun b o hb q=>by
      simp only[ZK,Zx,or_false]at hb
      exact sb.extBut b o hb (hk b o hb q)) (Zm _) ⟨by show 2<=sizeLine;decide,[key,v],.cons (by rw[e1];exact is_kV hkey) (.cons e2 .nil),by
        have q:=sb.extBut _ _ hTe a3
        exact⟨_,q,rfl,_,rfl,rfl⟩⟩
    refine⟨.ref s.heap.objs.size,_,I1,rfl,⟨s.heap.objs.size,kvs[i],ek,rfl,I.hok.fresh (Zm _),rfl⟩,⟨key,v,by rw[hn,<-lv];exact b1⟩,fun b hb => ?_⟩;have hb':=(hf b hb).1;rw[zp ?_]
    . exact hb'
    . have e:b=it:=by simpa using hb
      rw[e];exact Ne.symm hTe
  done:=by
    intro X hP hw hK hc i pins s σ H E I hf st hg;subst hP hw hK;obtain⟨h1,h2⟩:=hg;obtain⟨ok,ov,hit⟩:=st;obtain⟨ho,z,hs,vs,rel,hD⟩:=(show ObjOk X.prog X.w H s.heap a (.frz ob (.dK kvs)) from I.hok a _ h1);have hA:=ib hD ho hd;have lv:vs.length=kvs.length:=rel.length.symm;rw[hn,<-lv]at hit;obtain⟨f0,f1,f2,f3,f4,f5⟩:=hf it (by simp);exact wpAny_pyNext_items_end (I.ok.hd hc) hit hA (Yr (by omega)) fun h' eb=>⟨rfl,I.turned (t':=s.toks) (fun b o hb e=>eb b o hb e) f0 f1 f3 f4 f5⟩
  self:=fun _ _ _ _ _ st h=>by
    obtain⟨ok,ov,hit⟩:=st;exact PySem.W.kcp_self hit h
section
variable{X:Cx}
def zf2(tl:TE):TI:=fun σ H R=>tl σ H fun x H1=>∃a kvs,x=.ref a/\H1 a=some (.dK kvs)/\∀ob,R (Iti a ob kvs) (upd H1 a (.frz ob (.dK kvs)))
theorem zjq{tl:TE}{σ:St}{H:Hp}{R:It->Hp->Prop}:zf2 tl σ H R=tl σ H fun x H1=>∃a kvs,x=.ref a/\H1 a=some (.dK kvs)/\∀ob,R (Iti a ob kvs) (upd H1 a (.frz ob (.dK kvs))):=rfl
theorem zir {o:Expr} {tl:TE} {apos pos tpos:Pos} {elts:List Expr} {x1:Nat} (ho:PE X o tl) (hbase:attributeBase o "items" X.env (eval o X.env)=eval o X.env:=by rfl) (hline:(apos.endLine==pos.line)=true:=by rfl) :
    PI X (.Tuple elts x1 tpos) (.Call (.Attribute o "items" apos) [] [] pos) (zf2 tl):=by
  intro pins s σ H R I h;refine wpAny_Call_method (T := "dict") (id := "dict.items") hbase rfl hline F.plainAttrs_dict F.slot_dict_items F.type_dict_items (thn (ho pins s σ H _ I h) fun u s1 ⟨x,H1,I1,rx,a,kvs,ex,ha,q⟩ => ?_);subst ex;obtain rfl:u=Value.ref a:=rx;obtain⟨z,hs,vs,rel,hD⟩:=dk_of I1.hok ha;refine⟨hD.typeIs,hD.mapOf.noDict,?_⟩
  show wpAny _ _ (callWith pos (.builtin "dict.items") [.ref a] [] []) _ _ _
  refine method_meetsIn F.slot_dict_items F.entry_dict_items rfl (PySem.evalArgs_none ⟨rfl,hD.typeIs,F.args_dict_items_1 _,_,meets_dict_items (yw X.prog X.w) a hs,⟨vs,hD⟩,?_⟩);obtain⟨ob,es,ep,ho',hce,hdat,hrest⟩:=id hD;have hA:=ib hD ho' hdat;have kp:∀(b:Addr) (o:Obj),s1.heap.get? b=some o->(s1.heap.push { cls:=.type "dict_items", data:=.fields #[.ref a] }).get? b=some o:=fun b o e=>Heap.get?_push_of_some _ e
  have I2:Inv X pins σ (upd H1 a (.frz ob (.dK kvs))) s1:=iw (h':=s1.heap) (t':=s1.toks) I1 (by rw[ha];exact True.intro) ⟨rfl,fun _ _=>rfl⟩ ⟨ob,ho'⟩ ⟨ho',z,hs,vs,rel,hD⟩;have I3:Inv X pins σ (upd H1 a (.frz ob (.dK kvs))) { s1 with heap:=s1.heap.push { cls:=.type "dict_items", data:=.fields #[.ref a] } }:=I2.kept (t':=s1.toks) kp;refine wpAny_pyIter_items (d:=a) (kvs:=vs) (ep:=ep) (s:={ s1 with heap:=s1.heap.push { cls:=.type "dict_items", data:=.fields #[.ref a] } }) ⟨_,Heap.get?_push_size _ rfl,rfl,rfl⟩ (hA.at fun o e=>kp _ o e) ?_;have hz:(s1.heap.push { cls:=.type "dict_items", data:=.fields #[.ref a] }).objs.size=s1.heap.objs.size+1:=Heap.size_push ..;refine⟨_,[_],_,_,_,rfl,I3.kept (t':=s1.toks) fun b o e=>Heap.get?_push_of_some _ e,zeu (n:=vs.length) (ep:=ep) (ob:=ob) hdat rel.length.symm,⟨_,_,Heap.get?_push_size _ rfl⟩,fun b hb => ?_,q ob⟩;have e:b=(s1.heap.push { cls:=.type "dict_items", data:=.fields #[.ref a] }).objs.size:=by simpa using hb
  subst e;exact I3.fpOk (Zm _) (I3.hok.fresh (Zm _))
def tThaw(t:TE):TE:=fun σ H Q=>t σ H fun v H'=>∃d o u kvs,H d=some (.dK kvs)/\H' d=some (.frz o u)/\Q v (upd H' d u)
theorem e_thaw{t:TE}{σ:St}{H:Hp}{Q:VK}:tThaw t σ H Q=t σ H fun v H'=>∃d o u kvs,H d=some (.dK kvs)/\H' d=some (.frz o u)/\Q v (upd H' d u):=rfl
theorem zji{e:Expr}{t:TE}(he:PE X e t):PE X e (tThaw t):=by
  intro pins s σ H Q I h;refine thn (he pins s σ H _ I h) fun v s1 ⟨x,H1,I1,rx,d,o,u,kvs,h0,h1,q⟩ => ?_
  have I2:Inv X pins σ (upd H1 d u) s1:=I1.thaw h1 (fun o' u' z=>by
    have:=I.base.frzs d o' u' z;rw[h0]at this
    cases this)
  exact⟨x,_,I2,rx,q⟩
end
section
variable{σ:St}{k:Nat}{g:TG}{tt:TT}{te:TE}{H1:Hp}{Fin:List V->Hp->Prop}
theorem zd5{a:Addr}{ob:Obj}{kvs:List (Key×V)}(Pv:Nat->List V->Hp->Prop)(h0:Pv 0 [] H1)(hz:∀i ys H,i<=kvs.length->Pv i ys H->ys.length<=sizeLine/\H a=some (.frz ob (.dK kvs)))
    (hs:∀i kv ys H T,kvs[i]? = some kv->H T=none->Pv i ys H->g (.ref T) (List.replicate k none++σ) (upd H T (.tup [kV kv.1,kv.2])) fun σ2 H2=>σ2.drop k=σ/\tt σ2 H2 fun b H3=>if b=true then te σ2 H3 fun v H4=>Pv (i+1) (ys++[v]) H4 else Pv (i+1) ys H3)
    (hd:∀ys H,Pv kvs.length ys H->Fin ys H):sw (Iti a ob kvs) σ k g tt te H1 Fin:=by
  refine⟨fun i m ys H=>m=kvs.length-i/\i<=kvs.length/\Pv i ys H,⟨kvs.length,by simp,ZE _,h0⟩,?_⟩
  rintro i m ys H ⟨rfl,hi,p⟩
  obtain⟨q0,qa⟩:=hz i ys H hi p;refine⟨q0,?_⟩
  by_cases hlt:i<kvs.length
  . refine .inr ⟨⟨qa,hlt⟩,Pv (i+1),fun ys' H' p'=>⟨kvs.length-(i+1),by omega,rfl,hlt,p'⟩,fun x H' y => ?_⟩
    obtain⟨T,kv,hkv,rfl,hT,rfl⟩:=y;exact hs i kv ys _ T hkv hT p
  . have e:i=kvs.length:=by omega
    subst e;exact .inl ⟨⟨qa,Zm _⟩,hd ys H p⟩
end
end L2
namespace L2
open PySem PySem.Spec PyProof.Rows
theorem zhz(n:Nat):sliceRange 0 (n:Int) 1=(List.range n).map fun k=>k:=by
  unfold sliceRange;simp only[show((1:Int) > 0) by decide,if_true,Int.ediv_one]
  have hc:(if ((n:Int) > 0) then((n:Int)-0+1-1) else 0).toNat=n:=by
    split <;> omega
  first
    | rw[hc]
    | (have hc2:(if (0:Int)<(n:Int) then((n:Int)-0+1-1) else 0).toNat=n:=by split <;> omega
       rw[hc2])
  refine Yw fun k _ => ?_
  omega
theorem zjo(its:List Value):slicePick its.toArray none none (some 1)=its.toArray:=by
  have hb:sliceBounds none none (some 1) its.toArray.size=(0,((its.length:Nat):Int),1):=by simp[sliceBounds]
  unfold slicePick;rw[hb,zhz,YW]
  congr 1
  rw[d9 (g:=fun k=>its.getD k .none) fun k hk => ?_]
  . refine List.ext_getElem (by simp) fun i h1 h2 => ?_
    have hi:i<its.length:=by simpa using h2
    simp[Zb hi]
  . have hi:k<its.length:=ZV.mp hk
    simp[Zb hi]
section
variable{X:Cx}{e st:Expr}{te:TE}{ts:TO}{pos p2:Pos}
def tWay(K:Fg)(te:TE)(ts:TO):TE:=fun σ H Q=>te σ H fun x H1=>ts σ H1 fun k H2=>∃up:Bool,k=some (if up then 1 else -1)/\∃a xs,x=.ref a/\SqL K H2 a xs/\∀p,H2 p=none->Q (.ref p) (upd H2 p (.lst (if up then xs else xs.reverse)))
theorem e_way{K:Fg}{σ:St}{H:Hp}{Q:VK}:tWay K te ts σ H Q=te σ H fun x H1=>ts σ H1 fun k H2=>∃up:Bool,k=some (if up then 1 else -1)/\∃a xs,x=.ref a/\SqL K H2 a xs/\∀p,H2 p=none->Q (.ref p) (upd H2 p (.lst (if up then xs else xs.reverse))):=rfl
theorem pe_way(he:PE X e te)(hs:PO X (some st) ts):PE X (.Subscript e (.Slice none none (some st) p2) pos) (tWay X.K te ts):=by
  intro pins s σ H Q I h;refine Subscript_ (thn (he pins s σ H _ I h) fun v s1 ⟨x,H1,I1,r1,q1⟩ => ?_);refine wpAny_Slice ?_;rw[evalPart_none];refine wpAny_pure (wpAny_pure ?_);refine thn (hs pins s1 σ H1 _ I1 q1) fun vk s3 ⟨k,H3,I3,pk,q3⟩ => ?_
  obtain⟨up,rfl,a,xs,rfl,hx,q⟩:=q3;cases r1;have I4:Inv X pins σ H3 { s3 with heap:=s3.heap.push { cls:=.type "slice", data:=.fields #[.none,.none,vk] } }:=I3.kept (t':=s3.toks) fun b ob q=>Heap.get?_push_of_some _ q
  obtain⟨its,r,ht,hz⟩:=I4.list hx;have hlen:=r.length
  show wpAny (model X.prog X.w) X.A (subscriptTail e (.Slice none none (some st) p2) (.ref a) (.ref s3.heap.objs.size)) (EP X pins σ Q) X.xe { s3 with heap:=s3.heap.push { cls:=.type "slice", data:=.fields #[.none,.none,vk] } }
  refine tail_any (ops:=[.ref a,.ref s3.heap.objs.size]) ht.isList.typeIs slot_list_getitem.lookup ?_ (by with_unfolding_all rfl)
  cases up with
  | false =>
    refine wpAny_getItem_list_slice ht.isList (Heap.IsSliceOf.new ..) .none .none pk (by simp) ?_ (by rw[Zr] <;> omega);rw[show(if false=true then(1:Int) else -1) = -1 from rfl,zgg];refine⟨.ref _,_,I4.laid (t':=s3.toks) (o:=.lst xs.reverse) (fun b ob q=>Heap.get?_push_of_some _ q) (Zm _) ?_,rfl,q _ (I4.hok.fresh (Zm _))⟩;exact⟨by rw[List.length_reverse];exact hz,_,0,zhq r,Heap.get?_push_size _ rfl⟩
  | true =>
    refine wpAny_getItem_list_slice ht.isList (Heap.IsSliceOf.new ..) .none .none pk (by simp) ?_ (by rw[Zr] <;> omega);rw[show(if true=true then(1:Int) else -1)=1 from rfl,zjo];refine⟨.ref _,_,I4.laid (t':=s3.toks) (o:=.lst xs) (fun b ob q=>Heap.get?_push_of_some _ q) (Zm _) ?_,rfl,q _ (I4.hok.fresh (Zm _))⟩;exact⟨hz,_,0,r,Heap.get?_push_size _ rfl⟩
end
section
variable{prog:Program}{w:World}{K:Type}[DecidableEq K]{knd:KeyKind prog w K}{A:Around}{E:Value->Shared->Prop}{s:Shared}
end
end L2
namespace Mine
open PySem PySem.Spec PyProof.Rows L2
theorem yl{α β:Type}{g:α->β}{xs:List α}{i:Nat}{x:β}(h:(xs.map g)[i]? = some x):∃y,xs[i]? = some y/\g y=x:=by
  rw[Ze]at h
  cases e:xs[i]? with
  | none=>rw[e]at h;cases h
  | some y=>rw[e]at h;cases h;exact⟨y,rfl,rfl⟩
def zg:=And.intro @e_way (And.intro @zjq (And.intro @e_thaw (And.intro @zi8 (And.intro @zjh (And.intro @e_down (And.intro @e_var (And.intro @e_C (And.intro @e_op (And.intro @e_un (And.intro @e_rI (And.intro @e_rI0 (And.intro @e_rU (And.intro @e_rEq (And.intro @e_rNe (And.intro @e_ixL (And.intro @e_ixT (And.intro @e_set (And.intro @e_cat (And.intro @e_test (And.intro @e_B (And.intro @e_and (And.intro @e_or (And.intro @e_not (And.intro @e_andV (And.intro @e_orV (And.intro @e_notV (And.intro @e_ifE (And.intro @e_all (And.intro @e_next (And.intro @e_seq (And.intro @e_brk (And.intro @e_cnt (And.intro @e_drop (And.intro @e_ret (And.intro @e_retN (And.intro @e_ifS (And.intro @e_asg (And.intro @zcz (And.intro @e_setC (And.intro @e_augS (And.intro @e_ipI (And.intro @e_nil (And.intro @e_cons (And.intro @e_tup (And.intro @e_lst (And.intro @e_call (And.intro @e_CB (And.intro @e_BM (And.intro @e_app (And.intro @e_rng1 (And.intro @e_rng2 (And.intro @e_iL (And.intro @e_for (And.intro @e_comp (And.intro @cxK (And.intro @e_zip (And.intro @e_gTup (And.intro @e_gNil (And.intro @zi3 (And.intro @e_rep (And.intro @e_gSub (And.intro @e_slL (And.intro @e_tSl (And.intro @zif (And.intro @e_part (And.intro @zi5 (And.intro @e_BM0 (And.intro @zjb (And.intro @e_in (And.intro @e_enum (And.intro @e_minK (And.intro @zka (And.intro @zkb (And.intro @zjy (And.intro @e_try0 (And.intro @suK (And.intro @noxK (And.intro @tryK (And.intro @e_eqD (And.intro @e_inD (And.intro @e_iStr (And.intro @e_mulS (And.intro @e_ixS (And.intro @e_join (And.intro @e_iT (And.intro @e_iSeq (And.intro @e_tupL (And.intro @e_minL (And.intro @e_maxL (And.intro @zho (And.intro @e_leS (And.intro @e_vI0 (And.intro @e_vI (And.intro @e_ints (And.intro @e_isB (And.intro @e_catH (And.intro @zh3 (And.intro @e_slH (And.intro @e_slT (And.intro @ziq (And.intro @zit (And.intro @e_inK (And.intro @e_setD (And.intro @zjz (And.intro @e_dget (And.intro @e_zip2 (And.intro @e_BMT (And.intro @zjk (And.intro @e_maxK (@e_dg1))))))))))))))))))))))))))))))))))))))))))))))))))))))))))))))))))))))))))))))))))))))))))))))))))))))))))))))
def zf:=And.intro @ZN.{0} (And.intro @ZX.{0} (And.intro @Nat.zero_add (And.intro @YU.{0} (And.intro @List.replicate_zero.{0} (And.intro @List.drop_succ_cons.{0} (And.intro @List.drop_zero.{0} (And.intro @Int.zero_add (And.intro @List.getElem?_cons_zero.{0} (And.intro @YE.{0} (And.intro @List.set_cons_zero.{0} (And.intro @List.set_cons_succ.{0} (And.intro @Option.some.injEq.{0} (And.intro @V.int.injEq (And.intro @V.ref.injEq (And.intro @V.bl.injEq (And.intro @V.ty.injEq (And.intro @V.str.injEq (And.intro @List.cons.injEq.{0} (And.intro @Yg.{0} (And.intro @Yk.{0} (And.intro @Yo.{0} (And.intro @exists_eq.{1} (And.intro @exists_eq'.{1} (And.intro @exists_eq_left.{1} (And.intro @exists_eq_left'.{1} (And.intro @exists_and_left.{1} (And.intro @exists_and_right.{1} (And.intro @and_assoc (And.intro @true_and (@and_true))))))))))))))))))))))))))))))
def top(i:Nat):Stmt:=PySem.Challenge.pw_trueword_k48_whole_menus_are_payable.main.body.getD i (.Pass ⟨0,0,0,0⟩)
abbrev ox:Stmt:=top 7
theorem zbx:zq ["thing"] ["thing"] (zl ox):=⟨rfl,rfl,rfl,by decide +kernel,rfl,by decide +kernel,by decide +kernel⟩
abbrev rc:Stmt:=top 8
theorem ai:zq ["thing"] ["thing"] (zl rc):=⟨rfl,rfl,rfl,by decide +kernel,rfl,by decide +kernel,by decide +kernel⟩
abbrev u4:Stmt:=top 9
theorem cv:zq ["thing", "width"] ["thing", "width"] (zl u4):=⟨rfl,rfl,rfl,by decide +kernel,rfl,by decide +kernel,by decide +kernel⟩
abbrev eg:Stmt:=top 10
theorem zi7:zq ["grid", "s", "t"] ["grid", "s", "t"] (zl eg):=⟨rfl,rfl,rfl,by decide +kernel,rfl,by decide +kernel,by decide +kernel⟩
abbrev e6:Stmt:=top 11
theorem zj7:zq ["grid", "pays", "t", "s"] ["grid", "pays", "t", "s"] (zl e6):=⟨rfl,rfl,rfl,by decide +kernel,rfl,by decide +kernel,by decide +kernel⟩
abbrev s9:Stmt:=top 12
theorem sc_first_gain:zq ["grid", "pays", "t", "s", "more"] ["grid", "pays"] (zl s9):=⟨rfl,rfl,rfl,by decide +kernel,rfl,by decide +kernel,by decide +kernel⟩
abbrev ll:Stmt:=top 18
theorem zec:zq ["thing"] ["thing"] (zl ll):=⟨rfl,rfl,rfl,by decide +kernel,rfl,by decide +kernel,by decide +kernel⟩
abbrev qw:Stmt:=top 19
theorem zbv:zq ["thing", "most"] ["thing", "most"] (zl qw):=⟨rfl,rfl,rfl,by decide +kernel,rfl,by decide +kernel,by decide +kernel⟩
abbrev sk:Stmt:=top 20
theorem aj:zq ["thing", "height", "width"] ["thing", "height", "width"] (zl sk):=⟨rfl,rfl,rfl,by decide +kernel,rfl,by decide +kernel,by decide +kernel⟩
abbrev lx:Stmt:=top 21
theorem ze7:zq ["thing", "width"] ["thing", "width"] (zl lx):=⟨rfl,rfl,rfl,by decide +kernel,rfl,by decide +kernel,by decide +kernel⟩
abbrev lc:Stmt:=top 22
theorem zd0:zq ["hand"] ["hand"] (zl lc):=⟨rfl,rfl,rfl,by decide +kernel,rfl,by decide +kernel,by decide +kernel⟩
abbrev oy:Stmt:=top 23
theorem zcj:zq ["hands"] ["hands"] (zl oy):=⟨rfl,rfl,rfl,by decide +kernel,rfl,by decide +kernel,by decide +kernel⟩
abbrev wx:Stmt:=top 24
theorem mi:zq ["hand"] ["hand"] (zl wx):=⟨rfl,rfl,rfl,by decide +kernel,rfl,by decide +kernel,by decide +kernel⟩
abbrev wg:Stmt:=top 25
theorem p9:zq ["hand"] ["hand"] (zl wg):=⟨rfl,rfl,rfl,by decide +kernel,rfl,by decide +kernel,by decide +kernel⟩
abbrev qi:Stmt:=top 26
theorem zbe:zq ["hand", "word"] ["hand", "word"] (zl qi):=⟨rfl,rfl,rfl,by decide +kernel,rfl,by decide +kernel,by decide +kernel⟩
abbrev vt:Stmt:=top 27
theorem sc_count_of_rows:zq ["hands", "count", "hand"] ["hands"] (zl vt):=⟨rfl,rfl,rfl,by decide +kernel,rfl,by decide +kernel,by decide +kernel⟩
abbrev u5:Stmt:=top 28
theorem cg:zq ["outcomes", "hands"] ["outcomes", "hands"] (zl u5):=⟨rfl,rfl,rfl,by decide +kernel,rfl,by decide +kernel,by decide +kernel⟩
abbrev uv:Stmt:=top 29
theorem sc_kept_hand:zq ["hand", "worths"] ["hand"] (zl uv):=⟨rfl,rfl,rfl,by decide +kernel,rfl,by decide +kernel,by decide +kernel⟩
abbrev rh:Stmt:=top 30
theorem gg:zq ["outcomes", "hands"] ["outcomes", "hands"] (zl rh):=⟨rfl,rfl,rfl,by decide +kernel,rfl,by decide +kernel,by decide +kernel⟩
abbrev u8:Stmt:=top 31
theorem cb:zq ["house"] ["house"] (zl u8):=⟨rfl,rfl,rfl,by decide +kernel,rfl,by decide +kernel,by decide +kernel⟩
abbrev om:Stmt:=top 32
theorem zb6:zq ["house"] ["house"] (zl om):=⟨rfl,rfl,rfl,by decide +kernel,rfl,by decide +kernel,by decide +kernel⟩
abbrev qt:Stmt:=top 33
theorem sc_with_each:zq ["rows", "words", "longer", "row"] ["rows", "words"] (zl qt):=⟨rfl,rfl,rfl,by decide +kernel,rfl,by decide +kernel,by decide +kernel⟩
abbrev qj:Stmt:=top 34
theorem sc_rows_over:zq ["hands", "rows", "hand"] ["hands"] (zl qj):=⟨rfl,rfl,rfl,by decide +kernel,rfl,by decide +kernel,by decide +kernel⟩
abbrev mq:Stmt:=top 35
theorem zel:zq ["house"] ["house"] (zl mq):=⟨rfl,rfl,rfl,by decide +kernel,rfl,by decide +kernel,by decide +kernel⟩
abbrev m4:Stmt:=top 36
theorem zd7:zq ["things", "k"] ["things", "k"] (zl m4):=⟨rfl,rfl,rfl,by decide +kernel,rfl,by decide +kernel,by decide +kernel⟩
abbrev ql:Stmt:=top 37
theorem za7:zq ["house", "k"] ["house", "k"] (zl ql):=⟨rfl,rfl,rfl,by decide +kernel,rfl,by decide +kernel,by decide +kernel⟩
abbrev oh:Stmt:=top 38
theorem zb7:zq ["others", "k", "word"] ["others", "k", "word"] (zl oh):=⟨rfl,rfl,rfl,by decide +kernel,rfl,by decide +kernel,by decide +kernel⟩
abbrev o0:Stmt:=top 40
theorem zb9:zq ["walk"] ["walk"] (zl o0):=⟨rfl,rfl,rfl,by decide +kernel,rfl,by decide +kernel,by decide +kernel⟩
abbrev oa:Stmt:=top 41
theorem zb2:zq ["walk"] ["walk"] (zl oa):=⟨rfl,rfl,rfl,by decide +kernel,rfl,by decide +kernel,by decide +kernel⟩
abbrev wo:Stmt:=top 42
theorem k7:zq ["grid", "s"] ["grid", "s"] (zl wo):=⟨rfl,rfl,rfl,by decide +kernel,rfl,by decide +kernel,by decide +kernel⟩
abbrev rk:Stmt:=top 43
theorem sc_least_to:zq ["grid", "walks", "t", "longer"] ["grid", "walks", "t"] (zl rk):=⟨rfl,rfl,rfl,by decide +kernel,rfl,by decide +kernel,by decide +kernel⟩
abbrev ue:Stmt:=top 44
theorem jt:zq ["grid", "walks"] ["grid", "walks"] (zl ue):=⟨rfl,rfl,rfl,by decide +kernel,rfl,by decide +kernel,by decide +kernel⟩
abbrev ug:Stmt:=top 45
theorem f7:zq ["grid", "totals", "t"] ["grid", "totals", "t"] (zl ug):=⟨rfl,rfl,rfl,by decide +kernel,rfl,by decide +kernel,by decide +kernel⟩
abbrev rp:Stmt:=top 46
theorem sc_has_honest:zq ["grid", "totals", "size"] ["grid"] (zl rp):=⟨rfl,rfl,rfl,by decide +kernel,rfl,by decide +kernel,by decide +kernel⟩
abbrev wp:Stmt:=top 47
theorem sc_closed_below_zero:zq ["rows", "s", "walks"] ["rows"] (zl wp):=⟨rfl,rfl,rfl,by decide +kernel,rfl,by decide +kernel,by decide +kernel⟩
abbrev d6:Stmt:=top 48
theorem sc_ring:zq ["grid", "rows", "size", "found"] ["grid"] (zl d6):=⟨rfl,rfl,rfl,by decide +kernel,rfl,by decide +kernel,by decide +kernel⟩
abbrev u6:Stmt:=top 50
theorem cm:zq ["grid"] ["grid"] (zl u6):=⟨rfl,rfl,rfl,by decide +kernel,rfl,by decide +kernel,by decide +kernel⟩
abbrev jf:Stmt:=top 51
theorem zhj:zq ["walk", "longer"] ["walk", "longer"] (zl jf):=⟨rfl,rfl,rfl,by decide +kernel,rfl,by decide +kernel,by decide +kernel⟩
abbrev u9:Stmt:=top 52
theorem sc_least_roads:zq ["grid", "walks", "size"] ["grid", "walks"] (zl u9):=⟨rfl,rfl,rfl,by decide +kernel,rfl,by decide +kernel,by decide +kernel⟩
abbrev on:Stmt:=top 54
theorem sc_greatest:zq ["grid", "walks"] ["grid"] (zl on):=⟨rfl,rfl,rfl,by decide +kernel,rfl,by decide +kernel,by decide +kernel⟩
abbrev sm:Stmt:=top 56
theorem ak:zq ["house", "thing"] ["house", "thing"] (zl sm):=⟨rfl,rfl,rfl,by decide +kernel,rfl,by decide +kernel,by decide +kernel⟩
abbrev uh:Stmt:=top 57
theorem sc_dealt_places:zq ["house", "table", "k", "others", "rows"] ["house", "table", "k", "others"] (zl uh):=⟨rfl,rfl,rfl,by decide +kernel,rfl,by decide +kernel,by decide +kernel⟩
abbrev qm:Stmt:=top 58
theorem zam:zq ["worths", "places"] ["worths", "places"] (zl qm):=⟨rfl,rfl,rfl,by decide +kernel,rfl,by decide +kernel,by decide +kernel⟩
abbrev mr:Stmt:=top 59
theorem sc_grid_of:zq ["house", "table", "k", "others", "places"] ["house", "table", "k", "others"] (zl mr):=⟨rfl,rfl,rfl,by decide +kernel,rfl,by decide +kernel,by decide +kernel⟩
abbrev m5:Stmt:=top 61
theorem zee:zq ["offer"] ["offer"] (zl m5):=⟨rfl,rfl,rfl,by decide +kernel,rfl,by decide +kernel,by decide +kernel⟩
abbrev sr:Stmt:=top 62
theorem aa:zq ["offer"] ["offer"] (zl sr):=⟨rfl,rfl,rfl,by decide +kernel,rfl,by decide +kernel,by decide +kernel⟩
abbrev ef:Stmt:=top 63
theorem sc_pick:zq ["house", "k", "menu", "word", "worths", "offers"] ["house", "k", "menu", "word"] (zl ef):=⟨rfl,rfl,rfl,by decide +kernel,rfl,by decide +kernel,by decide +kernel⟩
abbrev mz:Stmt:=top 64
theorem zej:zq ["house", "thing"] ["house", "thing"] (zl mz):=⟨rfl,rfl,rfl,by decide +kernel,rfl,by decide +kernel,by decide +kernel⟩
abbrev qu:Stmt:=top 65
theorem sc_are_menus:zq ["house", "k", "thing", "rows"] ["house", "k", "thing"] (zl qu):=⟨rfl,rfl,rfl,by decide +kernel,rfl,by decide +kernel,by decide +kernel⟩
abbrev tf:Stmt:=top 66
theorem d8:zq ["house", "k", "menus"] ["house", "k", "menus"] (zl tf):=⟨rfl,rfl,rfl,by decide +kernel,rfl,by decide +kernel,by decide +kernel⟩
abbrev oj:Stmt:=top 68
theorem sc_grids_of:zq ["house", "table", "grids", "k"] ["house", "table"] (zl oj):=⟨rfl,rfl,rfl,by decide +kernel,rfl,by decide +kernel,by decide +kernel⟩
abbrev iu:Stmt:=top 69
theorem sc_paper:zq ["k", "others", "grid", "told"] ["k", "others", "grid"] (zl iu):=⟨rfl,rfl,rfl,by decide +kernel,rfl,by decide +kernel,by decide +kernel⟩
abbrev l5:Stmt:=top 70
theorem sc_verdict:zq ["house", "table", "papers", "k", "others", "grid", "found"] ["house", "table"] (zl l5):=⟨rfl,rfl,rfl,by decide +kernel,rfl,by decide +kernel,by decide +kernel⟩
abbrev u7:Stmt:=top 72
theorem ce:zq ["script", "k"] ["script", "k"] (zl u7):=⟨rfl,rfl,rfl,by decide +kernel,rfl,by decide +kernel,by decide +kernel⟩
abbrev z9:Stmt:=top 73
theorem sc_law_pool:zq ["cell", "many", "letters", "number", "filler", "begin", "step", "size", "place", "front", "back"] ["cell", "many"] (zl z9):=⟨rfl,rfl,rfl,by decide +kernel,rfl,by decide +kernel,by decide +kernel⟩
abbrev qr:Stmt:=top 74
theorem sc_law_drawn:zq ["script", "k", "many", "cell", "number"] ["script", "k"] (zl qr):=⟨rfl,rfl,rfl,by decide +kernel,rfl,by decide +kernel,by decide +kernel⟩
abbrev qx:Stmt:=top 75
theorem zap:zq ["cell"] ["cell"] (zl qx):=⟨rfl,rfl,rfl,by decide +kernel,rfl,by decide +kernel,by decide +kernel⟩
abbrev qh:Stmt:=top 76
theorem sc_law_parts:zq ["script", "tops", "first", "shape", "outcomes", "hands", "k", "j", "size", "words", "worths", "word"] ["script", "tops"] (zl qh):=⟨rfl,rfl,rfl,by decide +kernel,rfl,by decide +kernel,by decide +kernel⟩
abbrev ou:Stmt:=top 77
theorem sc_law_rows:zq ["hands", "rows", "hand", "grown", "row"] ["hands"] (zl ou):=⟨rfl,rfl,rfl,by decide +kernel,rfl,by decide +kernel,by decide +kernel⟩
abbrev qv:Stmt:=top 78
theorem za3:zq ["cell", "worth"] ["cell", "worth"] (zl qv):=⟨rfl,rfl,rfl,by decide +kernel,rfl,by decide +kernel,by decide +kernel⟩
abbrev qk:Stmt:=top 79
theorem sc_law_menus:zq ["script", "outcomes", "hands", "k", "menus", "j", "rows", "step", "others", "menu", "worths", "i", "place", "cell"] ["script", "outcomes", "hands", "k"] (zl qk):=⟨rfl,rfl,rfl,by decide +kernel,rfl,by decide +kernel,by decide +kernel⟩
abbrev oo:Stmt:=top 80
theorem sc_law_grid:zq ["hands", "places", "k", "others", "got", "grid", "worths"] ["hands", "places", "k", "others"] (zl oo):=⟨rfl,rfl,rfl,by decide +kernel,rfl,by decide +kernel,by decide +kernel⟩
abbrev oz:Stmt:=top 81
theorem zb8:zq ["grid", "s", "t"] ["grid", "s", "t"] (zl oz):=⟨rfl,rfl,rfl,by decide +kernel,rfl,by decide +kernel,by decide +kernel⟩
abbrev sg:Stmt:=top 82
theorem sc_law_honest:zq ["grid", "prices", "t", "s", "r"] ["grid", "prices"] (zl sg):=⟨rfl,rfl,rfl,by decide +kernel,rfl,by decide +kernel,by decide +kernel⟩
abbrev i5:Stmt:=top 83
theorem sc_law:zq ["script", "outcomes", "hands", "house", "k", "menus", "table", "places", "row", "others", "got", "prices", "found"] ["script"] (zl i5):=⟨rfl,rfl,rfl,by decide +kernel,rfl,by decide +kernel,by decide +kernel⟩
structure Bt(mg:Str->Option Value):Prop where
  «abs» : mg "abs" = none
  «all» : mg "all" = none
  «bool» : mg "bool" = none
  «dict» : mg "dict" = none
  «enumerate» : mg "enumerate" = none
  «int» : mg "int" = none
  «isinstance» : mg "isinstance" = none
  «len» : mg "len" = none
  «list» : mg "list" = none
  «max» : mg "max" = none
  «min» : mg "min" = none
  «range» : mg "range" = none
  «set» : mg "set" = none
  «str» : mg "str" = none
  «tuple» : mg "tuple" = none
  «zip» : mg "zip" = none
  k_MOST_WORDS:∃t,mg "MOST_WORDS" = some (Value.int 8 t)
  k_MOST_LETTERS:∃t,mg "MOST_LETTERS" = some (Value.int 8 t)
  k_MOST_OUTCOMES:∃t,mg "MOST_OUTCOMES" = some (Value.int 8 t)
  k_MOST_HANDS:∃t,mg "MOST_HANDS" = some (Value.int 4 t)
  k_MOST_ROWS:∃t,mg "MOST_ROWS" = some (Value.int 256 t)
structure Ad where
  NoHouse:Addr
  NoPays:Addr
  NoMenu:Addr
structure Ct(K:Fg)(mg:Str->Option Value)(a:Ad):Prop where
  m_NoHouse:mg "NoHouse" = some (.ref a.NoHouse)
  q_NoHouse:ErrQ K a.NoHouse
  m_NoPays:mg "NoPays" = some (.ref a.NoPays)
  q_NoPays:ErrQ K a.NoPays
  m_NoMenu:mg "NoMenu" = some (.ref a.NoMenu)
  q_NoMenu:ErrQ K a.NoMenu
structure NewGrid(H H':Hp)(b:Addr)(bs:List Addr)(rows:List (List Int))(k n:Nat):Prop where
  same:Same H H'
  nb:H b=none
  nr:∀r∈bs,H r=none
  nd:bs.Nodup
  ne:b∉bs
  at':H' b=some (.lst (bs.map V.ref))
  lb:bs.length=k
  lr:rows.length=k
  row:∀(i:Nat) (r:Addr) (ns:List Int),bs[i]? = some r->rows[i]? = some ns->H' r=some (.lst (ns.map V.int))/\ns.length=n
theorem NewGrid.grid{K:Fg}{H H':Hp}{b:Addr}{bs:List Addr}{rows:List (List Int)}{k n:Nat}(g:NewGrid H H' b bs rows k n):GridL K H' b bs rows :=
  ⟨.of g.at',g.lb.trans g.lr.symm,fun i r ns e1 e2=>.of (g.row i r ns e1 e2).1⟩
theorem Same.upd{H H':Hp}(s:Same H H'){a:Addr}{o:HO}(n:H a=none):Same H (upd H' a o):=fun b u e=>by
  rw[zp (y3 e n)];exact s b u e
theorem NewGrid.nil{H H':Hp}{b:Addr}{n:Nat}(s:Same H H')(nb:H' b=none):NewGrid H (upd H' b (.lst [])) b [] [] 0 n :=
  ⟨Same.upd s (s.free nb),s.free nb,(fun _ z=>nomatch z),Yq,(fun z=>nomatch z),zc,rfl,rfl,(fun i r ns e=>by simp at e)⟩
theorem NewGrid.laid{H H':Hp}{b c:Addr}{bs:List Addr}{rows:List (List Int)}{k n:Nat}{o:HO}(g:NewGrid H H' b bs rows k n)(nc:H' c=none):NewGrid H (L2.upd H' c o) b bs rows k n :=
  ⟨Same.upd g.same (g.same.free nc),g.nb,g.nr,g.nd,g.ne,by rw[zp (y3 g.at' nc)];exact g.at',g.lb,g.lr,fun i r ns e1 e2=>by
    obtain⟨q,l⟩:=g.row i r ns e1 e2
    exact⟨by rw[zp (y3 q nc)];exact q,l⟩⟩
theorem NewGrid.snoc{H H':Hp}{b c:Addr}{bs:List Addr}{rows:List (List Int)}{k n:Nat}{ns:List Int}(g:NewGrid H H' b bs rows k n)(hn:H c=none)(hc:H' c=some (.lst (ns.map V.int)))(hl:ns.length=n)(hb:c∉bs)(hcb:c≠b) :
    NewGrid H (L2.upd H' b (.lst (bs.map V.ref++[.ref c]))) b (bs++[c]) (rows++[ns]) (k+1) n:=by
  refine⟨Same.upd g.same g.nb,g.nb,fun r hr => ?_,?_,?_,?_,by rw[Zo,g.lb];rfl,by rw[Zo,g.lr];rfl,fun i r ms e1 e2 => ?_⟩
  . rcases ZH.mp hr with z | z
    . exact g.nr r z
    . rw[ZC.mp z];exact hn
  . refine Yh.mpr ⟨g.nd,by simp,fun x hx y hy => ?_⟩
    rw[ZC.mp hy]
    rintro rfl
    exact hb hx
  . intro z
    rcases ZH.mp z with z | z
    . exact g.ne z
    . exact hcb (ZC.mp z).symm
  . rw[zc,Zn];rfl
  . have nb':∀r,r∈bs++[c]->r≠b:=fun r hr=>by
      rcases ZH.mp hr with z | z
      . rintro rfl;exact g.ne z
      . rw[ZC.mp z];exact hcb
    have hr:r∈bs++[c]:=Zi e1;rw[zp (nb' r hr)]
    by_cases hi:i<bs.length
    . rw[Zg hi]at e1
      rw[Zg (by rw[g.lr,<-g.lb];exact hi)]at e2;exact g.row i r ms e1 e2
    . have hi':bs.length<=i:=ZD.mp hi
      rw[Zf hi']at e1;rw[Zf (by rw[g.lr,<-g.lb];exact hi')]at e2
      have e0:i-bs.length=0:=by
        have:=(Zc.mp e1).1;simp at this;omega
      rw[e0]at e1;have e0':i-rows.length=0:=by rw[g.lr,<-g.lb];exact e0
      rw[e0']at e2;simp at e1 e2;subst e1 e2;exact⟨hc,hl⟩
theorem NewGrid.put{H H':Hp}{b c:Addr}{bs:List Addr}{rows:List (List Int)}{k n j i:Nat}{ns:List Int}{v:Int}(g:NewGrid H H' b bs rows k n)(hi:bs[i]? = some c)(hr:rows[i]? = some ns) :
    NewGrid H (L2.upd H' c (.lst ((ns.map V.int).set j (.int v)))) b bs (rows.set i (ns.set j v)) k n:=by
  have hm:c∈bs:=Zi hi;have hcb:b≠c:=by rintro rfl;exact g.ne hm
  refine⟨Same.upd g.same (g.nr c hm),g.nb,g.nr,g.nd,g.ne,by rw[zp hcb];exact g.at',g.lb,by rw[Xg];exact g.lr,fun i' r ms e1 e2 => ?_⟩
  by_cases e:i'=i
  . subst e
    rw[hi]at e1;cases e1;rw[YH (Zc.mp hr).1]at e2;cases e2;refine⟨by rw[zc,List.map_set],?_⟩;rw[Xg];exact(g.row _ c ns hi hr).2
  . have hrc:r≠c:=by
      rintro rfl
      obtain⟨h1,e1'⟩:=Zc.mp e1;obtain⟨h2,e2'⟩:=Zc.mp hi;exact e ((YK g.nd).mp (e1'.trans e2'.symm))
    rw[YR (Ne.symm e)]at e2;rw[zp hrc];exact g.row i' r ms e1 e2
theorem NewGrid.trans{H H1 H':Hp}{b:Addr}{bs:List Addr}{rows:List (List Int)}{k n:Nat}(s:Same H H1)(g:NewGrid H1 H' b bs rows k n):NewGrid H H' b bs rows k n :=
  ⟨s.trans g.same,s.free g.nb,fun r hr=>s.free (g.nr r hr),g.nd,g.ne,g.at',g.lb,g.lr,g.row⟩
theorem fb{K:Fg}{H:Hp}{g:Addr}{as:List Addr}{rows:List (List Int)}(G:GridL K H g as rows){t:Nat}{ns:List Int}(h:rows[t]? = some ns) :
    ∃r,atI (as.map V.ref) (t:Int)=some (V.ref r)/\SqL K H r (ns.map V.int):=by
  have ht:t<as.length:=by rw[G.2.1];exact(Zc.mp h).1
  have e:as[t]? = some as[t]:=by simp[ht]
  exact⟨as[t],z7 (by rw[Ze,e];rfl),G.2.2 t _ ns e h⟩
theorem v7{ns:List Int}{t:Nat}{x:Int}(h:ns[t]? = some x):atI (ns.map V.int) (t:Int)=some (V.int x):=z7 (by rw[Ze,h];rfl)
structure Copy(H1 H2:Hp)(rows:List (List Int))(i:Nat)(cs:List Addr):Prop where
  same:Same H1 H2
  len:cs.length=i
  row:∀(j:Nat) (c:Addr) (ns:List Int),cs[j]? = some c->rows[j]? = some ns->H2 c=some (.lst (ns.map V.int))
theorem Copy.snoc{H1 H2:Hp}{rows:List (List Int)}{i:Nat}{cs:List Addr}{l:Addr}{ns:List Int}(C:Copy H1 H2 rows i cs)(hl:H2 l=none)(e:rows[i]? = some ns):Copy H1 (upd H2 l (.lst (ns.map V.int))) rows (i+1) (cs++[l]):=by
  refine⟨Same.upd C.same (C.same.free hl),by rw[Zo,C.len];rfl,fun j c ms e1 e2 => ?_⟩
  by_cases hj:j<cs.length
  . rw[Zg hj]at e1
    have q:=C.row j c ms e1 e2;rw[zp (y3 q hl)];exact q
  . have hj':cs.length<=j:=ZD.mp hj
    rw[Zf hj']at e1
    have h0:j-cs.length=0:=by
      have:=(Zc.mp e1).1;simp at this;omega
    rw[h0]at e1;simp at e1;subst e1;have hji:j=i:=by rw[<-C.len];omega
    subst hji;rw[e]at e2;cases e2;exact zc
theorem GridL.mono{K:Fg}{H H':Hp}{g:Addr}{as:List Addr}{rows:List (List Int)}(S:Same H H')(G:GridL K H g as rows):GridL K H' g as rows:=⟨S.seq G.1,G.2.1,fun i r ns e1 e2=>S.seq (G.2.2 i r ns e1 e2)⟩
theorem NewGrid.width{H H':Hp}{b:Addr}{bs:List Addr}{rows:List (List Int)}{n:Nat}(G:NewGrid H H' b bs rows n n):∀i:Nat,i<n->∃ns:List Int,rows[i]? = some ns/\ns.length=n:=fun i hi=>by
  have hr2:i<rows.length:=by rw[G.lr];exact hi
  have hb2:i<bs.length:=by rw[G.lb];exact hi
  exact⟨rows[i],by simp[hr2],(G.row i bs[i] rows[i] (by simp[hb2]) (by simp[hr2])).2⟩
theorem Copy.grids{K:Fg}{H H1 H2:Hp}{b h:Addr}{bs cs:List Addr}{rows:List (List Int)}{n:Nat}(G:NewGrid H H1 b bs rows n n)(C:Copy H1 H2 rows n cs)(hh:H2 h=none) :
    Same H1 (upd H2 h (.lst (cs.map V.ref)))/\GridL K (upd H2 h (.lst (cs.map V.ref))) b bs rows/\GridL K (upd H2 h (.lst (cs.map V.ref))) h cs rows:=by
  have S3:Same H1 (upd H2 h (.lst (cs.map V.ref))):=Same.upd C.same (C.same.free hh);refine⟨S3,⟨.of (S3 _ _ G.at'),G.lb.trans G.lr.symm,fun i r ns e1 e2=>.of (S3 _ _ (G.row i r ns e1 e2).1)⟩,⟨.of zc,C.len.trans G.lr.symm,fun i r ns e1 e2=>.of ?_⟩⟩;have q:=C.row i r ns e1 e2;rw[zp (y3 q hh)];exact q
theorem qc{bs:List Addr}{i:Nat}{x:V}(hx:(bs.map V.ref)[i]? = some x):∃r,bs[i]? = some r/\x=V.ref r:=by
  rw[Ze]at hx
  cases e:bs[i]? with
  | none=>rw[e]at hx;cases hx
  | some r=>rw[e]at hx;cases hx;exact⟨r,rfl,rfl⟩
theorem zba{ms:List Int}{i:Nat}{x:V}(hx:(ms.map V.int)[i]? = some x):∃r,ms[i]? = some r/\x=V.int r:=by
  rw[Ze]at hx
  cases e:ms[i]? with
  | none=>rw[e]at hx;cases hx
  | some r=>rw[e]at hx;cases hx;exact⟨r,rfl,rfl⟩
def zt(ns:List Int)(k:Nat):Int:=ns.getD k 0
def numA(c:Int):Int:=(c % 2147483647*48271+11) % 2147483647
def letA(i:Int):Nat:=97+(i % 26).toNat
def mt(c:Int):Str:=chr1 (letA (numA c))
def stepsA:List Int:=[1,3,5,7,9,11,15,17,19,21,23,25]
def sh(c:Int):Int:=stepsA.getD (numA c/2028 % 12).toNat 0
def ui(c:Int):Int:=1+numA c/24336 % 8
def so(c:Int):Int:=numA c/194688 % ui c
def vc(c:Int)(k:Nat):Str:=if numA c/26 % 3=1 then xj (mt c) (k+1) else xj (mt c) (so c).toNat++chr1 (letA (numA c/78 % 26+sh c*k))++xj (mt c) (ui c-1-so c).toNat
def xn(c:Int)(many:Nat):List Str:=(List.range many).map (vc c)
def ny(K:Fg):Sp:=fun vs H Q _=>∃(a:Addr) (ns:List Int) (k:Nat),vs=[.ref a,.int k]/\SqL K H a (ns.map V.int)/\Q (.int (zt ns k)) H
def zg7:Sp:=fun vs H Q _=>∃(c:Int) (many:Nat),vs=[.int c,.int many]/\many<=9/\∀H' l,Same H H'->H l=none->H' l=some (.lst ((xn c many).map V.str))->Q (.ref l) H'
theorem wa(c:Int)(n:Nat):(xn c n).length=n:=by rw[xn,Za,Yi]
theorem fu(c:Int)(n:Nat):xn c (n+1)=xn c n++[vc c n]:=by rw[xn,Yz,Zn];rfl
theorem xv(z:Str)(n:Nat):(xj z n).length=z.length*n:=by
  unfold xj Str.length;simp[List.length_flatten,Nat.mul_comm]
theorem uy(y z:Str):(y++z).length=y.length+z.length:=by
  show(y.cps++z.cps).size=_
  simp[Str.length]
theorem zb3(c:Int):0<=numA c:=Yc _ (by decide)
theorem zf7{i:Int}(h0:0<=i)(h1:i<26):atI (Str.ofString "abcdefghijklmnopqrstuvwxyz").cps.toList i=some (97+i.toNat):=by
  have h:∀j:Fin 26,(Str.ofString "abcdefghijklmnopqrstuvwxyz").cps.toList[j.val]? = some (97+j.val):=by decide +kernel
  have:=z7 (xs:=(Str.ofString "abcdefghijklmnopqrstuvwxyz").cps.toList) (j:=i.toNat) (v:=97+i.toNat) (h ⟨i.toNat,by omega⟩)
  rwa [Yl h0]at this
section
variable{P:Program}{w:World}{K:Fg}{mg:Str->Option Value}{base:Heap}
theorem yr (B:Bt mg) (D:ze K mg "_law_cell_at" u7 ["script", "k"]):FnAt P w K mg base "_law_cell_at" 1 ["script", "k"] (ny K):=by
  refine FnAt.of D ce (fun vs H Q E h => ?_) (fun f cdv A outer s H vs Q E hr h => ?_)
  . obtain⟨a,ns,k,rfl,_⟩:=h
    rfl
  . obtain⟨a,ns,k,rfl,hS,q⟩:=h
    refine⟨_,(@zj _ _ _ _ _ (@yu _ _ _ _ _ _ _ _ (@yp _ _ _ _ _ _ _ _ lq (pv 1) (zr zw rfl B.len yd (za (pv 0) (@zb _))) (yk _)) (@zi _ _ _ (@zm _ _ _ _ (@z0 _ _ _ _ _ _ _ yc (pv 0) (pv 1) (fun _ _=>rfl)))) (@yg _)) (@zi _ _ _ (@zm _ _ _ _ (@zd _ _ _ _)))),?_⟩;rw[show start ["script", "k"] [V.ref a,V.int k]=[some (V.ref a),some (V.int k)] from rfl];simp only[zg,zf,↓reduceIte];refine⟨ns.map V.int,.inl hS,?_⟩;rw[Za];unfold zt at q;refine ite2 (fun h => ?_) (fun h => ?_)
    . have h':(k:Int)<ns.length:=of_decide_eq_true h
      have hlt:k<ns.length:=by omega
      have e:ns[k]? = some ns[k]:=by simp[hlt]
      have e2:=z7 (xs:=ns.map V.int) (j:=k) (v:=V.int ns[k]) (by rw[Ze,e];rfl);rw[Zk,e]at q;exact⟨ns.map V.int,hS,_,e2,q⟩
    . have h':¬(k:Int)<ns.length:=fun z=>h (decide_eq_true z)
      rw[Zk,Yr (by omega)]at q;exact q
theorem sy (B:Bt mg) (D:ze K mg "_law_pool" z9 ["cell", "many"]):FnAt P w K mg base "_law_pool" 1 ["cell", "many"] zg7:=by
  refine FnAt.of D sc_law_pool (fun vs H Q E h => ?_) (fun f cdv A outer s H vs Q E hr h => ?_)
  . obtain⟨c,many,rfl,_⟩:=h
    rfl
  . obtain⟨c,many,rfl,hm,q⟩:=h
    have b10:PSs (cxOf CX0 P w K mg base ["cell", "many", "letters", "number", "filler", "begin", "step", "size", "place", "front", "back"] "_law_pool" (zl z9) f cdv A outer s H E).nox ((yy z9).drop 10) _:=(@zjn _ _ _ _ _ (@zm _ _ _ _ (yh ["k"] ["cell", "many", "letters", "number", "filler", "begin", "step", "size", "place", "front", "back"] rfl (yv rfl B.range (za (pv 1) (@zb _))) (fun _=>(zn (i:=0) (show(["k", "cell", "many", "letters", "number", "filler", "begin", "step", "size", "place", "front", "back"]:List Str).Nodup by decide +kernel) rfl (Or.inl rfl))) (fun _=>(@z8 _)) (fun _=>(@zk _ _ _ _ _ _ _ _ d0 (@zk _ _ _ _ _ _ _ _ d0 (pv 10) (@z0 _ _ _ _ _ _ _ zgh (pv 3) (@zk _ _ _ _ _ _ _ _ ye (@zk _ _ _ _ _ _ _ _ yn (pv 6) (@zk _ _ _ _ _ _ _ _ wu (pv 7) (pv 0))) (@zd _ _ _ _)) (fun _ _=>rfl))) (pv 11))) rfl (by decide +kernel) rfl rfl)) rfl rfl);have b9:PSs (cxOf CX0 P w K mg base ["cell", "many", "letters", "number", "filler", "begin", "step", "size", "place", "front", "back"] "_law_pool" (zl z9) f cdv A outer s H E).nox ((yy z9).drop 9) _:=(@uw _ _ _ _ _ _ (zy (i:=10) sc_law_pool.nd rfl (Or.inr rfl) (@zk _ _ _ _ _ _ _ _ cj (pv 4) (@zk _ _ _ _ _ _ _ _ xr (@zk _ _ _ _ _ _ _ _ xr (pv 7) (@zd _ _ _ _)) (pv 8)))) rfl @b10);have b8:PSs (cxOf CX0 P w K mg base ["cell", "many", "letters", "number", "filler", "begin", "step", "size", "place", "front", "back"] "_law_pool" (zl z9) f cdv A outer s H E).nox ((yy z9).drop 8) _:=(@uw _ _ _ _ _ _ (zy (i:=9) sc_law_pool.nd rfl (Or.inr rfl) (@zk _ _ _ _ _ _ _ _ cj (pv 4) (pv 8))) rfl @b9);have b7:PSs (cxOf CX0 P w K mg base ["cell", "many", "letters", "number", "filler", "begin", "step", "size", "place", "front", "back"] "_law_pool" (zl z9) f cdv A outer s H E).nox ((yy z9).drop 7) _:=(@uw _ _ _ _ _ _ (zy (i:=8) sc_law_pool.nd rfl (Or.inl rfl) (@zk _ _ _ _ _ _ _ _ ye (@zk _ _ _ _ _ _ _ _ yx (pv 3) (@zd _ _ _ _)) (pv 7))) rfl @b8);have b6:PSs (cxOf CX0 P w K mg base ["cell", "many", "letters", "number", "filler", "begin", "step", "size", "place", "front", "back"] "_law_pool" (zl z9) f cdv A outer s H E).nox ((yy z9).drop 6) _:=(@uw _ _ _ _ _ _ (zy (i:=7) sc_law_pool.nd rfl (Or.inl rfl) (@zk _ _ _ _ _ _ _ _ yn (@zd _ _ _ _) (@zk _ _ _ _ _ _ _ _ ye (@zk _ _ _ _ _ _ _ _ yx (pv 3) (@zd _ _ _ _)) (@zd _ _ _ _)))) rfl @b7);have b5:PSs (cxOf CX0 P w K mg base ["cell", "many", "letters", "number", "filler", "begin", "step", "size", "place", "front", "back"] "_law_pool" (zl z9) f cdv A outer s H E).nox ((yy z9).drop 5) _:=(@uw _ _ _ _ _ _ (zy (i:=6) sc_law_pool.nd rfl (Or.inr rfl) (@z0 _ _ _ _ _ _ _ yc (@xp _ _ _ _ (zcn (ns:=[1,3,5,7,9,11,15,17,19,21,23,25]) rfl)) (@zk _ _ _ _ _ _ _ _ ye (@zk _ _ _ _ _ _ _ _ yx (pv 3) (@zd _ _ _ _)) (@zd _ _ _ _)) (fun _ _=>rfl))) rfl @b6);have b4:PSs (cxOf CX0 P w K mg base ["cell", "many", "letters", "number", "filler", "begin", "step", "size", "place", "front", "back"] "_law_pool" (zl z9) f cdv A outer s H E).nox ((yy z9).drop 4) _:=(@uw _ _ _ _ _ _ (zy (i:=5) sc_law_pool.nd rfl (Or.inr rfl) (@zk _ _ _ _ _ _ _ _ ye (@zk _ _ _ _ _ _ _ _ yx (pv 3) (@zd _ _ _ _)) (@zd _ _ _ _))) rfl @b5);have b3:PSs (cxOf CX0 P w K mg base ["cell", "many", "letters", "number", "filler", "begin", "step", "size", "place", "front", "back"] "_law_pool" (zl z9) f cdv A outer s H E).nox ((yy z9).drop 3) _:=(@uw _ _ _ _ _ _ (@yu _ _ _ _ _ _ _ _ (@yp _ _ _ _ _ _ _ _ sv (@zk _ _ _ _ _ _ _ _ ye (@zk _ _ _ _ _ _ _ _ yx (pv 3) (@zd _ _ _ _)) (@zd _ _ _ _)) (@zd _ _ _ _) (yk _)) (@zi _ _ _ (@zm _ _ _ _ (yh ["k"] ["cell", "many", "letters", "number", "filler", "begin", "step", "size", "place", "front", "back"] rfl (yv rfl B.range (za (pv 1) (@zb _))) (fun _=>(zn (i:=0) (show(["k", "cell", "many", "letters", "number", "filler", "begin", "step", "size", "place", "front", "back"]:List Str).Nodup by decide +kernel) rfl (Or.inl rfl))) (fun _=>(@z8 _)) (fun _=>(@zk _ _ _ _ _ _ _ _ cj (pv 5) (@zk _ _ _ _ _ _ _ _ yn (pv 0) (@zd _ _ _ _)))) rfl (by decide +kernel) rfl rfl))) (@yg _)) rfl @b4);have b2:PSs (cxOf CX0 P w K mg base ["cell", "many", "letters", "number", "filler", "begin", "step", "size", "place", "front", "back"] "_law_pool" (zl z9) f cdv A outer s H E).nox ((yy z9).drop 2) _:=(@uw _ _ _ _ _ _ (zy (i:=4) sc_law_pool.nd rfl (Or.inr rfl) (@z0 _ _ _ _ _ _ _ zgh (pv 2) (@zk _ _ _ _ _ _ _ _ ye (pv 3) (@zd _ _ _ _)) (fun _ _=>rfl))) rfl @b3);have b1:PSs (cxOf CX0 P w K mg base ["cell", "many", "letters", "number", "filler", "begin", "step", "size", "place", "front", "back"] "_law_pool" (zl z9) f cdv A outer s H E).nox ((yy z9).drop 1) _:=(@uw _ _ _ _ _ _ (zy (i:=3) sc_law_pool.nd rfl (Or.inl rfl) (@zk _ _ _ _ _ _ _ _ ye (@zk _ _ _ _ _ _ _ _ yn (@zk _ _ _ _ _ _ _ _ wu (@zk _ _ _ _ _ _ _ _ ye (pv 0) (@zd _ _ _ _)) (@zd _ _ _ _)) (@zd _ _ _ _)) (@zd _ _ _ _))) rfl @b2);have b0:PSs (cxOf CX0 P w K mg base ["cell", "many", "letters", "number", "filler", "begin", "step", "size", "place", "front", "back"] "_law_pool" (zl z9) f cdv A outer s H E).nox ((yy z9).drop 0) _:=(@uw _ _ _ _ _ _ (zy (i:=2) sc_law_pool.nd rfl (Or.inr rfl) (@u0 _ _ _ _)) rfl @b1);have b_:=@zj5 _ _ _ @b0;refine⟨_,@b_,?_⟩;rw[show start ["cell", "many", "letters", "number", "filler", "begin", "step", "size", "place", "front", "back"] [V.int c,V.int many]=[some (V.int c),some (V.int many),none,none,none,none,none,none,none,none,none] from rfl];simp only[zg,zf,↓reduceIte];simp only[show(c % 2147483647*48271+11) % 2147483647=numA c from rfl,show numA c % 26=numA c % 26 from rfl];have hn:=zb3 c
    have hs1:1<=ui c/\ui c<=8:=by
      have h1:=Yc (numA c/24336) (show(8:Int)≠0 by decide);have h2:=ZU (numA c/24336) (show(0:Int)<8 by decide);unfold ui;omega
    have hp1:0<=so c/\so c<ui c:=⟨Yc _ (by omega),ZU _ (by omega)⟩;have hl1:=zf7 (Yc (numA c) (show(26:Int)≠0 by decide)) (ZU (numA c) (show(0:Int)<26 by decide));refine⟨by decide,?_,by decide,by decide,by decide,_,hl1,?_⟩
    . exact .inr ⟨by decide,by decide⟩
    refine⟨⟨by decide,by decide⟩,by decide,rfl,ite2 (fun h => ?_) (fun h => ?_)⟩
    . have h:=of_decide_eq_true h
      refine⟨by omega,by omega,fun d => ?_⟩;rw[Zw];refine x8 (fun i ys H'=>H'=H/\ys=(xn c i).map V.str) ⟨rfl,rfl⟩ ?_ ?_ ?_
      . rintro i ys H' hi ⟨rfl,rfl⟩
        rw[Za,wa];exact Zd (show i<=9 by omega) (by decide)
      . rintro i ys H' hi ⟨rfl,rfl⟩
        simp only[zg,zf,↓reduceIte];refine⟨by omega,by omega,?_,?_⟩
        . show 1*_<=_
          rw[Nat.one_mul];exact Zd (show((i:Int)+1).toNat<=10 by omega) (by decide)
        . rw[fu,vc,if_pos h,Zn,show((i:Int)+1).toNat=i+1 by omega]
          rfl
      . rintro ys H' ⟨rfl,rfl⟩ l hl
        exact q _ l (Same.upd (Same.refl _) hl) hl zc
    . have h:¬_:=fun z=>h (decide_eq_true z)
      refine⟨⟨by decide,by decide⟩,by decide,by decide,fun p hp=>⟨⟨by decide,by decide⟩,by decide,_,.of zc,?_⟩⟩
      have hst:∃st:Int,atI [V.int 1,V.int 3,V.int 5,V.int 7,V.int 9,V.int 11,V.int 15,V.int 17,V.int 19,V.int 21,V.int 23,V.int 25] (numA c/2028 % 12)=some (V.int st)/\st=sh c/\0<=st/\st<26:=by
        have h1:=Yc (numA c/2028) (show(12:Int)≠0 by decide);have h2:=ZU (numA c/2028) (show(0:Int)<12 by decide);unfold sh;generalize numA c/2028 % 12=m at h1 h2 ⊢;have h3:∀j:Fin 12,[V.int 1,V.int 3,V.int 5,V.int 7,V.int 9,V.int 11,V.int 15,V.int 17,V.int 19,V.int 21,V.int 23,V.int 25][j.val]? = some (V.int (stepsA.getD j.val 0))/\0<=stepsA.getD j.val 0/\stepsA.getD j.val 0<26:=by decide
        have h4:=h3 ⟨m.toNat,by omega⟩;have h5:=z7 h4.1;rw[Yl h1]at h5;exact⟨_,h5,rfl,h4.2⟩
      obtain⟨st,e1,e2,e3,e4⟩:=hst;subst e2;refine⟨_,e1,⟨by decide,by decide⟩,by decide,⟨by decide,by decide⟩,?_⟩;simp only[show 1+numA c/24336 % 8=ui c from rfl,show numA c/194688 % ui c=so c from rfl,show(⟨#[97+(numA c % 26).toNat]⟩:Str)=mt c from rfl];have hf:(mt c).length=1:=rfl;rw[hf,Nat.one_mul,Nat.one_mul];refine⟨by omega,by omega,by omega,?_,by omega,by omega,?_,by omega,by omega,fun d => ?_⟩
      . exact Zd (show(so c).toNat<=8 by omega) (by decide)
      . exact Zd (show(ui c-1-so c).toNat<=8 by omega) (by decide)
      rw[Zw];have S1:Same H (upd H p (.lst [V.int 1,V.int 3,V.int 5,V.int 7,V.int 9,V.int 11,V.int 15,V.int 17,V.int 19,V.int 21,V.int 23,V.int 25])):=Same.upd (Same.refl _) hp;generalize upd H p (.lst [V.int 1,V.int 3,V.int 5,V.int 7,V.int 9,V.int 11,V.int 15,V.int 17,V.int 19,V.int 21,V.int 23,V.int 25])=H1 at *;refine x8 (fun i ys H'=>H'=H1/\ys=(xn c i).map V.str) ⟨rfl,rfl⟩ ?_ ?_ ?_
      . rintro i ys H' hi ⟨rfl,rfl⟩
        rw[Za,wa];exact Zd (show i<=9 by omega) (by decide)
      . rintro i ys H' hi ⟨rfl,rfl⟩
        simp only[zg,zf,↓reduceIte];have hb:=zf7 (Yc (numA c/78 % 26+sh c*i) (show(26:Int)≠0 by decide)) (ZU (numA c/78 % 26+sh c*i) (show(0:Int)<26 by decide));refine⟨.inl ⟨by omega,by omega⟩,by decide,by decide,_,hb,?_,?_,?_⟩
        . rw[xv,hf]
          exact Zd (show _<=20 by show 1*_+1<=20;omega) (by decide)
        . rw[uy,xv,xv,hf]
          exact Zd (show _<=30 by show 1*_+1+1*_<=30;omega) (by decide)
        . rw[fu,vc,if_neg h,Zn]
          rfl
      . rintro ys H' ⟨rfl,rfl⟩ l hl
        exact q _ l (Same.upd S1 (S1.free hl)) (S1.free hl) zc
end
def wn(ns:List Int):Nat:=max 1 (min ns.length 63-5)
def nt(ns:List Int)(k:Nat):Int :=
  if k<wn ns then zt ns (5+k % wn ns)
  else(zt ns (5+k % wn ns) % 2147483647*48271+(k/wn ns:Nat)*7919+k) % 2147483647*((zt ns (5+k % wn ns) % 2147483647*48271+(k/wn ns:Nat)*7919+k) % 2147483647) % 2147483629
def nj(c:Int):Int :=
  if c % 5=2 then c/5 % 10^18-5*10^17 else if c % 5=3 then c/5 % (2*10^60-1)-10^60+1 else if c % 5=4 then 0 else c/5 % 19-9
def cx(K:Fg):Sp:=fun vs H Q _=>∃(a:Addr) (ns:List Int) (k:Nat),vs=[.ref a,.int k]/\SqL K H a (ns.map V.int)/\Q (.int (nt ns k)) H
def zc1:Sp:=fun vs H Q _=>∃c:Int,vs=[.int c]/\Q (.int (nj c)) H
section
variable{P:Program}{w:World}{K:Fg}{mg:Str->Option Value}{base:Heap}
theorem ki (D:ze K mg "_law_worth" qx ["cell"]):FnAt P w K mg base "_law_worth" 1 ["cell"] zc1:=by
  refine FnAt.of D zap (fun vs H Q E h => ?_) (fun f cdv A outer s H vs Q E hr h => ?_)
  . obtain⟨c,rfl,_⟩:=h
    rfl
  . obtain⟨c,rfl,q⟩:=h
    refine⟨_,(@zj _ _ _ _ _ (@yu _ _ _ _ _ _ _ _ (@yp _ _ _ _ _ _ _ _ sv (@zk _ _ _ _ _ _ _ _ ye (pv 0) (@zd _ _ _ _)) (@zd _ _ _ _) (yk _)) (@zi _ _ _ (@zm _ _ _ _ (@zk _ _ _ _ _ _ _ _ xr (@zk _ _ _ _ _ _ _ _ ye (@zk _ _ _ _ _ _ _ _ yx (pv 0) (@zd _ _ _ _)) (@zk _ _ _ _ _ _ _ _ rf (@zd _ _ _ _) (@zd _ _ _ _))) (@zk _ _ _ _ _ _ _ _ wu (@zd _ _ _ _) (@zk _ _ _ _ _ _ _ _ rf (@zd _ _ _ _) (@zd _ _ _ _)))))) (@yg _)) (@zj _ _ _ _ _ (@yu _ _ _ _ _ _ _ _ (@yp _ _ _ _ _ _ _ _ sv (@zk _ _ _ _ _ _ _ _ ye (pv 0) (@zd _ _ _ _)) (@zd _ _ _ _) (yk _)) (@zi _ _ _ (@zm _ _ _ _ (@zk _ _ _ _ _ _ _ _ yn (@zk _ _ _ _ _ _ _ _ xr (@zk _ _ _ _ _ _ _ _ ye (@zk _ _ _ _ _ _ _ _ yx (pv 0) (@zd _ _ _ _)) (@zk _ _ _ _ _ _ _ _ xr (@zk _ _ _ _ _ _ _ _ wu (@zd _ _ _ _) (@zk _ _ _ _ _ _ _ _ rf (@zd _ _ _ _) (@zd _ _ _ _))) (@zd _ _ _ _))) (@zk _ _ _ _ _ _ _ _ rf (@zd _ _ _ _) (@zd _ _ _ _))) (@zd _ _ _ _)))) (@yg _)) (@zj _ _ _ _ _ (@yu _ _ _ _ _ _ _ _ (@yp _ _ _ _ _ _ _ _ sv (@zk _ _ _ _ _ _ _ _ ye (pv 0) (@zd _ _ _ _)) (@zd _ _ _ _) (yk _)) (@zi _ _ _ (@zm _ _ _ _ (@zd _ _ _ _))) (@yg _)) (@zi _ _ _ (@zm _ _ _ _ (@zk _ _ _ _ _ _ _ _ xr (@zk _ _ _ _ _ _ _ _ ye (@zk _ _ _ _ _ _ _ _ yx (pv 0) (@zd _ _ _ _)) (@zd _ _ _ _)) (@zd _ _ _ _))))))),?_⟩;rw[show start ["cell"] [V.int c]=[some (V.int c)] from rfl];simp only[zg,zf,↓reduceIte];unfold nj at q;refine⟨by decide,rfl,ite2 (fun h => ?_) (fun h => ?_)⟩
    . rw[if_pos (of_decide_eq_true h)]at q
      exact⟨⟨by decide,by decide⟩,⟨by decide,by decide,by decide⟩,by decide,⟨by decide,by decide,by decide⟩,.inl ⟨by decide,by decide⟩,q⟩
    . rw[if_neg (fun z=>h (decide_eq_true z))]at q
      refine⟨by decide,rfl,ite2 (fun h => ?_) (fun h => ?_)⟩
      . rw[if_pos (of_decide_eq_true h)]at q
        exact⟨⟨by decide,by decide⟩,⟨by decide,by decide,by decide⟩,.inl ⟨by decide,by decide⟩,by decide,⟨by decide,by decide,by decide⟩,q⟩
      . rw[if_neg (fun z=>h (decide_eq_true z))]at q
        refine⟨by decide,rfl,ite2 (fun h => ?_) (fun h => ?_)⟩
        . rw[if_pos (of_decide_eq_true h)]at q
          exact q
        . rw[if_neg (fun z=>h (decide_eq_true z))]at q
          exact⟨⟨by decide,by decide⟩,by decide,q⟩
theorem um (B:Bt mg) (yr:FnAt P w K mg base "_law_cell_at" 1 ["script", "k"] (ny K)) (D:ze K mg "_law_drawn" qr ["script", "k"]):FnAt P w K mg base "_law_drawn" 2 ["script", "k"] (cx K):=by
  refine FnAt.of D sc_law_drawn (fun vs H Q E h => ?_) (fun f cdv A outer s H vs Q E hr h => ?_)
  . obtain⟨a,ns,k,rfl,_⟩:=h
    rfl
  . obtain⟨a,ns,k,rfl,hS,q⟩:=h
    refine⟨_,(@zj _ _ _ _ _ (zy (i:=2) sc_law_drawn.nd rfl (Or.inl rfl) (zr (zg2 rfl) rfl B.max zgc (za (@zd _ _ _ _) (za (@zk _ _ _ _ _ _ _ _ xr (zr (zgp rfl) rfl B.min zbl (za (zr zw rfl B.len yd (za (pv 0) (@zb _))) (za (@zd _ _ _ _) (@zb _)))) (@zd _ _ _ _)) (@zb _))))) (@zj _ _ _ _ _ (zy (i:=3) sc_law_drawn.nd rfl (Or.inl rfl) (zh yr (hr.mono (by decide)) rfl (za (pv 0) (za (@zk _ _ _ _ _ _ _ _ yn (@zd _ _ _ _) (@zk _ _ _ _ _ _ _ _ ye (pv 1) (pv 2))) (@zb _))))) (@zj _ _ _ _ _ (@yu _ _ _ _ _ _ _ _ (@yp _ _ _ _ _ _ _ _ lq (pv 1) (pv 2) (yk _)) (@zi _ _ _ (@zm _ _ _ _ (pv 3))) (@yg _)) (@zj _ _ _ _ _ (zy (i:=4) sc_law_drawn.nd rfl (Or.inl rfl) (@zk _ _ _ _ _ _ _ _ ye (@zk _ _ _ _ _ _ _ _ yn (@zk _ _ _ _ _ _ _ _ yn (@zk _ _ _ _ _ _ _ _ wu (@zk _ _ _ _ _ _ _ _ ye (pv 3) (@zd _ _ _ _)) (@zd _ _ _ _)) (@zk _ _ _ _ _ _ _ _ wu (@zk _ _ _ _ _ _ _ _ yx (pv 1) (pv 2)) (@zd _ _ _ _))) (pv 1)) (@zd _ _ _ _))) (@zi _ _ _ (@zm _ _ _ _ (@zk _ _ _ _ _ _ _ _ ye (@zk _ _ _ _ _ _ _ _ wu (pv 4) (pv 4)) (@zd _ _ _ _)))))))),?_⟩;rw[show start ["script", "k", "many", "cell", "number"] [V.ref a,V.int k]=[some (V.ref a),some (V.int k),none,none,none] from rfl];simp only[zg,zf,↓reduceIte];refine⟨_,Or.inl hS,?_⟩;rw[Za]
    have hm:(if (if (63:Int)<(ns.length:Int) then(63:Int) else(ns.length:Int))-5 > 1 then(if (63:Int)<(ns.length:Int) then(63:Int) else(ns.length:Int))-5 else 1)=(wn ns:Int):=by
      unfold wn
      by_cases h1:(63:Int)<(ns.length:Int)
      . rw[if_pos h1,if_pos (by omega)]
        omega
      . rw[if_neg h1]
        by_cases h2:(ns.length:Int)-5 > 1
        . rw[if_pos h2];omega
        . rw[if_neg h2];omega
    rw[hm];have hm1:1<=wn ns:=by unfold wn;omega
    have hm2:wn ns<=58:=by unfold wn;omega
    refine⟨by omega,a,ns,5+k % wn ns,?_,hS,?_⟩
    . rw[show(5:Int)+(k:Int) % (wn ns:Int)=((5+k % wn ns:Nat):Int) by rw[YA,Xb];rfl]
    unfold nt at q;refine ite2 (fun h => ?_) (fun h => ?_)
    . rw[if_pos (by have:=of_decide_eq_true h;omega)]at q
      exact q
    . rw[if_neg (by have:¬(k:Int)<(wn ns:Int):=fun z=>h (decide_eq_true z);omega)]at q
      refine⟨_,rfl,by decide,.inr ⟨by decide,by decide⟩,⟨by omega,by omega⟩,.inr ⟨by decide,by decide⟩,by decide,.inl ?_,by decide,?_⟩
      . generalize zt ns (5+k % wn ns) % 2147483647*48271+(k:Int)/(wn ns:Int)*7919+(k:Int)=m
        have h1:=Yc m (show(2147483647:Int)≠0 by decide);have h2:=ZU m (show(0:Int)<2147483647 by decide);omega
      . rw[Int.natCast_ediv]at q
        exact q
end
structure HX where
  t:Addr
  w:Addr
  g:Addr
  gs:List Addr
def HX.adr(x:HX):List Addr:=x.t::x.w::x.g::x.gs
structure HD where
  name:Str
  words:List Str
  worths:List (List Int)
structure HandAt(H:Hp)(x:HX)(d:HD):Prop where
  tup:H x.t=some (.tup [.str d.name,.ref x.w,.ref x.g])
  words:H x.w=some (.lst (d.words.map V.str))
  grid:H x.g=some (.lst (x.gs.map V.ref))
  len:x.gs.length=d.worths.length
  row:∀(i:Nat) (r:Addr) (ns:List Int),x.gs[i]? = some r->d.worths[i]? = some ns->H r=some (.lst (ns.map V.int))
theorem HandAt.mono{H H':Hp}{x:HX}{d:HD}(S:Same H H')(h:HandAt H x d):HandAt H' x d :=
  ⟨S _ _ h.tup,S _ _ h.words,S _ _ h.grid,h.len,fun i r ns e1 e2=>S _ _ (h.row i r ns e1 e2)⟩
def adrs(xs:List HX):List Addr:=(xs.map HX.adr).flatten
structure NewHands(H H':Hp)(b:Addr)(xs:List HX)(ds:List HD):Prop where
  same:Same H H'
  nb:H b=none
  at':H' b=some (.lst (xs.map fun x=>V.ref x.t))
  len:xs.length=ds.length
  hand:∀(i:Nat) (x:HX) (d:HD),xs[i]? = some x->ds[i]? = some d->HandAt H' x d
  new:∀y∈adrs xs,H y=none
  old:∀y∈adrs xs,H' y≠none
  nd:(adrs xs).Nodup
  ne:b∉adrs xs
theorem NewHands.nil{H H':Hp}{b:Addr}(s:Same H H')(nb:H' b=none):NewHands H (upd H' b (.lst [])) b [] [] :=
  ⟨Same.upd s (s.free nb),s.free nb,zc,rfl,(fun i x d e=>by simp at e),(fun y z=>nomatch z),(fun y z=>nomatch z),Yq,(fun z=>nomatch z)⟩
theorem NewHands.more{H H' H2:Hp}{b:Addr}{xs:List HX}{ds:List HD}(g:NewHands H H' b xs ds)(S:Same H' H2):NewHands H H2 b xs ds :=
  ⟨g.same.trans S,g.nb,S _ _ g.at',g.len,fun i x d e1 e2=>(g.hand i x d e1 e2).mono S,g.new,fun y hy=>by
    cases e:H' y with
    | none=>exact absurd e (g.old y hy)
    | some o=>rw[S _ _ e];simp,g.nd,g.ne⟩
theorem NewHands.snoc{H H':Hp}{b:Addr}{xs:List HX}{ds:List HD}{x:HX}{d:HD}(g:NewHands H H' b xs ds)(h:HandAt H' x d)(hn:∀y∈x.adr,H y=none)(hx:x.adr.Nodup)(ho:∀y∈x.adr,y∉adrs xs)(hb:b∉x.adr) :
    NewHands H (upd H' b (.lst (xs.map (fun x=>V.ref x.t)++[.ref x.t]))) b (xs++[x]) (ds++[d]):=by
  have ap:adrs (xs++[x])=adrs xs++x.adr:=by simp[adrs]
  have keep:∀y o,y≠b->H' y=some o->upd H' b (.lst (xs.map (fun x=>V.ref x.t)++[.ref x.t])) y=some o:=fun y o e q=>by rw[zp e];exact q
  have hand':∀{z:HX} {e:HD},HandAt H' z e->b∉z.adr->HandAt (upd H' b (.lst (xs.map (fun x=>V.ref x.t)++[.ref x.t]))) z e:=fun {z e} q nb=>by
    have n:∀y∈z.adr,y≠b:=fun y hy e=>nb (e▸hy)
    exact⟨keep _ _ (n _ (by simp[HX.adr])) q.tup,keep _ _ (n _ (by simp[HX.adr])) q.words,keep _ _ (n _ (by simp[HX.adr])) q.grid,q.len,fun i r ns e1 e2=>keep _ _ (n _ (by simp[HX.adr,Zi e1])) (q.row i r ns e1 e2)⟩
  refine⟨Same.upd g.same g.nb,g.nb,by rw[zc];simp,by simp[g.len],fun i z e e1 e2 => ?_,fun y hy => ?_,fun y hy => ?_,?_,?_⟩
  . by_cases hi:i<xs.length
    . rw[Zg hi]at e1
      rw[Zg (by rw[<-g.len];exact hi)]at e2;refine hand' (g.hand i z e e1 e2) fun q=>g.ne ?_
      exact YM.mpr ⟨_,Zp.mpr ⟨z,Zi e1,rfl⟩,q⟩
    . rw[Zf (ZD.mp hi)]at e1
      rw[Zf (by rw[<-g.len];exact ZD.mp hi)]at e2
      have e0:i-xs.length=0:=by
        have:=(Zc.mp e1).1;simp at this;omega
      rw[e0]at e1;rw[<-g.len,e0]at e2;simp at e1 e2;subst e1 e2;exact hand' h hb
  . rw[ap]at hy
    rcases ZH.mp hy with z | z
    . exact g.new y z
    . exact hn y z
  . rw[ap]at hy
    have hyb:y≠b:=fun e=>by
      rcases ZH.mp hy with z | z
      . exact g.ne (e▸z)
      . exact hb (e▸z)
    rw[zp hyb]
    rcases ZH.mp hy with z | z
    . exact g.old y z
    . rcases ZK.mp z with e | z
      . rw[e,h.tup];simp
      rcases ZK.mp z with e | z
      . rw[e,h.words];simp
      rcases ZK.mp z with e | z
      . rw[e,h.grid];simp
      . obtain⟨i,hi,rfl⟩:=Zy z
        have e1:x.gs[i]? = some x.gs[i]:=by simp[hi]
        have hi2:i<d.worths.length:=by rw[<-h.len];exact hi
        have e2:d.worths[i]? = some d.worths[i]:=by simp[hi2]
        rw[h.row i _ _ e1 e2];simp
  . rw[ap]
    refine Yh.mpr ⟨g.nd,hx,fun y hy z hz e => ?_⟩;exact ho z hz (e▸hy)
  . rw[ap]
    intro z
    rcases ZH.mp z with z | z
    . exact g.ne z
    . exact hb z
def y7(ns:List Int):Nat:=(1+zt ns 1 % 8).toNat
def qq(ns:List Int):List Str:=xn (zt ns 0) (y7 ns)
def w5(ns:List Int):Nat:=(1+zt ns 1/8 % 4).toNat
def x5(ns tops:List Int)(j:Nat):Nat:=(1+zt ns 2/([1,9,83,761]:List Int).getD j 0 % tops.getD (zt ns 1/8 % 4).toNat 0).toNat
def kt(ns:List Int)(j:Nat):Int:=[zt ns 0,zt ns 0/5+j,zt ns 3+31*j].getD (zt ns 1/32 % 3).toNat 0
def ux(ns:List Int):Int:=[zt ns 0,zt ns 0/7+2].getD (zt ns 1/96 % 2).toNat 0
def rowA(ns:List Int)(k n:Nat):List Int:=(List.range n).map fun i=>nj (nt ns (k+i))
def vx(ns:List Int)(k n m:Nat):List (List Int):=(List.range m).map fun r=>rowA ns (k+r*n) n
def xi(ns tops:List Int):Nat->Nat
  | 0=>0
  | j+1=>xi ns tops j+x5 ns tops j*y7 ns
def ar(ns tops:List Int)(j:Nat):HD:=⟨vc (ux ns) j,xn (kt ns j) (x5 ns tops j),vx ns (xi ns tops j) (y7 ns) (x5 ns tops j)⟩
def ww(ns tops:List Int)(m:Nat):List HD:=(List.range m).map (ar ns tops)
theorem zcb(ns tops:List Int)(m:Nat):ww ns tops (m+1)=ww ns tops m++[ar ns tops m]:=by rw[ww,Yz,Zn];rfl
theorem zgt(ns:List Int)(k n:Nat):rowA ns k (n+1)=rowA ns k n++[nj (nt ns (k+n))]:=by rw[rowA,Yz,Zn];rfl
theorem g8(ns:List Int)(k n:Nat):(rowA ns k n).length=n:=by rw[rowA,Za,Yi]
theorem ze0(ns:List Int)(k n m:Nat):vx ns k n (m+1)=vx ns k n m++[rowA ns (k+m*n) n]:=by rw[vx,Yz,Zn];rfl
theorem br(ns:List Int)(k n m:Nat):(vx ns k n m).length=m:=by rw[vx,Za,Yi]
theorem yt(a:Int){n:Int}(h:0<n):0<=a % n/\a % n<n:=⟨Yc _ (by omega),ZU _ h⟩
theorem mf(ns:List Int):1<=y7 ns/\y7 ns<=8:=by
  have:=yt (zt ns 1) (show(0:Int)<8 by decide);unfold y7;omega
theorem ld(ns:List Int):1<=w5 ns/\w5 ns<=4:=by
  have:=yt (zt ns 1/8) (show(0:Int)<4 by decide);unfold w5;omega
def Tops(tops:List Int):Prop:=tops.length=4/\∀t∈tops,1<=t/\t<=8
theorem Tops.get{tops:List Int}(h:Tops tops)(ns:List Int):∃t,tops[(zt ns 1/8 % 4).toNat]? = some t/\tops.getD (zt ns 1/8 % 4).toNat 0=t/\1<=t/\t<=8:=by
  have:=yt (zt ns 1/8) (show(0:Int)<4 by decide);have hl:(zt ns 1/8 % 4).toNat<tops.length:=by rw[h.1];omega
  refine⟨tops[(zt ns 1/8 % 4).toNat],by simp[hl],by rw[Zk];simp[hl],h.2 _ (Zl hl)⟩
theorem pi{ns tops:List Int}(h:Tops tops)(j:Nat):1<=x5 ns tops j/\x5 ns tops j<=8:=by
  obtain⟨t,_,e,h1,h2⟩:=h.get ns;unfold x5;rw[e];have:=yt (zt ns 2/([1,9,83,761]:List Int).getD j 0) (show 0<t by omega);omega
theorem za5{α:Type}{xs:List α}{i:Int}(h0:0<=i){v:α}(h:xs[i.toNat]? = some v):atI xs i=some v:=by
  have:=z7 h
  rwa [Yl h0]at this
def zdh(K:Fg):Sp:=fun vs H Q _=>∃(a tp:Addr) (ns tops:List Int),vs=[.ref a,.ref tp]/\SqL K H a (ns.map V.int)/\SqL K H tp (tops.map V.int)/\Tops tops /\
  ∀H1 H2 H3 (o b p:Addr) (xs:List HX),Same H H1->H o=none->H1 o=some (.lst ((qq ns).map V.str))->NewHands H1 H2 b xs (ww ns tops (w5 ns))->H2 p=none->H3=upd H2 p (.tup [.ref o,.ref b])->Q (.ref p) H3
def PvH(a tp o b:Addr)(ns tops:List Int)(H1:Hp)(j:Nat):L2.St->Hp->Prop:=fun σ H'=>∃(xs:List HX) (t1 t2 t3 t4 t5:Option V),NewHands H1 H' b xs (ww ns tops j)/\σ=[some (V.ref a),some (V.ref tp),some (V.int (zt ns 0)),some (V.int (zt ns 1)),some (V.ref o),some (V.ref b),some (V.int (xi ns tops j)),t1,t2,t3,t4,t5]
def PvG(a tp o b g wl:Addr)(ns tops:List Int)(H5:Hp)(j:Nat)(m:Nat):L2.St->Hp->Prop:=fun σ H'=>∃(gs:List Addr) (t2 t5:Option V),NewGrid H5 H' g gs (vx ns (xi ns tops j) (y7 ns) m) m (y7 ns)/\σ=[some (V.ref a),some (V.ref tp),some (V.int (zt ns 0)),some (V.int (zt ns 1)),some (V.ref o),some (V.ref b),some (V.int ((xi ns tops j+m*y7 ns:Nat):Int)),some (V.int j),t2,some (V.ref wl),some (V.ref g),t5]
def PvR(ns:List Int)(H6:Hp)(k:Nat)(i:Nat)(ys:List V)(H':Hp):Prop:=H'=H6/\ys=(rowA ns k i).map V.int
section
variable{P:Program}{w:World}{K:Fg}{mg:Str->Option Value}{base:Heap}
theorem l8 (B:Bt mg) (yr:FnAt P w K mg base "_law_cell_at" 1 ["script", "k"] (ny K)) (sy:FnAt P w K mg base "_law_pool" 1 ["cell", "many"] zg7) (ki:FnAt P w K mg base "_law_worth" 1 ["cell"] zc1) (um:FnAt P w K mg base "_law_drawn" 2 ["script", "k"] (cx K))
    (D:ze K mg "_law_parts" qh ["script", "tops"]):FnAt P w K mg base "_law_parts" 3 ["script", "tops"] (zdh K):=by
  refine FnAt.of D sc_law_parts (fun vs H Q E h => ?_) (fun f cdv A outer s H vs Q E hr h => ?_)
  . obtain⟨a,tp,ns,tops,rfl,_⟩:=h
    rfl
  . obtain⟨a,tp,ns,tops,rfl,hS,hT,ht,q⟩:=h
    refine⟨_,(@zj _ _ _ _ _ (zy (i:=2) sc_law_parts.nd rfl (Or.inl rfl) (zh yr (hr.mono (by decide)) rfl (za (pv 0) (za (@zd _ _ _ _) (@zb _))))) (@zj _ _ _ _ _ (zy (i:=3) sc_law_parts.nd rfl (Or.inl rfl) (zh yr (hr.mono (by decide)) rfl (za (pv 0) (za (@zd _ _ _ _) (@zb _))))) (@zj _ _ _ _ _ (zy (i:=4) sc_law_parts.nd rfl (Or.inl rfl) (zh sy (hr.mono (by decide)) rfl (za (pv 2) (za (@zk _ _ _ _ _ _ _ _ yn (@zd _ _ _ _) (@zk _ _ _ _ _ _ _ _ ye (pv 3) (@zd _ _ _ _))) (@zb _))))) (@zj _ _ _ _ _ (zy (i:=5) sc_law_parts.nd rfl (Or.inl rfl) (@xp _ _ _ _ (@zb _))) (@zj _ _ _ _ _ (zy (i:=6) sc_law_parts.nd rfl (Or.inr rfl) (@zd _ _ _ _)) (@zj _ _ _ _ _ (xc PassesOwn.never rfl (yv rfl B.range (za (@zk _ _ _ _ _ _ _ _ yn (@zd _ _ _ _) (@zk _ _ _ _ _ _ _ _ ye (@zk _ _ _ _ _ _ _ _ yx (pv 3) (@zd _ _ _ _)) (@zd _ _ _ _))) (@zb _))) (zn (i:=7) sc_law_parts.nd rfl (Or.inl rfl)) (@zj _ _ _ _ _ (zy (i:=8) sc_law_parts.nd rfl (Or.inl rfl) (@zk _ _ _ _ _ _ _ _ yn (@zd _ _ _ _) (@zk _ _ _ _ _ _ _ _ ye (@zk _ _ _ _ _ _ _ _ yx (zh yr (hr.mono (by decide)) rfl (za (pv 0) (za (@zd _ _ _ _) (@zb _)))) (@z0 _ _ _ _ _ _ _ yc (@xp _ _ _ _ (za (@zd _ _ _ _) (za (@zd _ _ _ _) (za (@zd _ _ _ _) (za (@zd _ _ _ _) (@zb _)))))) (pv 7) (fun _ _=>rfl))) (@z0 _ _ _ _ _ _ _ yc (pv 1) (@zk _ _ _ _ _ _ _ _ ye (@zk _ _ _ _ _ _ _ _ yx (pv 3) (@zd _ _ _ _)) (@zd _ _ _ _)) (fun _ _=>rfl))))) (@zj _ _ _ _ _ (zy (i:=9) sc_law_parts.nd rfl (Or.inl rfl) (zh sy (hr.mono (by decide)) rfl (za (@z0 _ _ _ _ _ _ _ yc (@xp _ _ _ _ (za (pv 2) (za (@zk _ _ _ _ _ _ _ _ yn (@zk _ _ _ _ _ _ _ _ yx (pv 2) (@zd _ _ _ _)) (pv 7)) (za (@zk _ _ _ _ _ _ _ _ yn (zh yr (hr.mono (by decide)) rfl (za (pv 0) (za (@zd _ _ _ _) (@zb _)))) (@zk _ _ _ _ _ _ _ _ wu (@zd _ _ _ _) (pv 7))) (@zb _))))) (@zk _ _ _ _ _ _ _ _ ye (@zk _ _ _ _ _ _ _ _ yx (pv 3) (@zd _ _ _ _)) (@zd _ _ _ _)) (fun _ _=>rfl)) (za (pv 8) (@zb _))))) (@zj _ _ _ _ _ (zy (i:=10) sc_law_parts.nd rfl (Or.inl rfl) (@xp _ _ _ _ (@zb _))) (@zj _ _ _ _ _ (xc PassesOwn.never rfl (@yb _ _ _ _ (pv 9)) (zn (i:=11) sc_law_parts.nd rfl (Or.inl rfl)) (@zj _ _ _ _ _ (r6 (jb PySem.F.plainAttrs_list PySem.F.slot_list_append PySem.F.type_list_append my (pv 10) (za (yh ["i"] ["script", "tops", "first", "shape", "outcomes", "hands", "k", "j", "size", "words", "worths", "word"] rfl (yv rfl B.range (za (zr zw rfl B.len yd (za (pv 4) (@zb _))) (@zb _))) (fun _=>(zn (i:=0) (show(["i", "script", "tops", "first", "shape", "outcomes", "hands", "k", "j", "size", "words", "worths", "word"]:List Str).Nodup by decide +kernel) rfl (Or.inl rfl))) (fun _=>(@z8 _)) (fun _=>(zh ki (hr.mono (by decide)) rfl (za (zh um (hr.mono (by decide)) rfl (za (pv 1) (za (@zk _ _ _ _ _ _ _ _ yn (pv 7) (pv 0)) (@zb _)))) (@zb _)))) rfl (by decide +kernel) rfl rfl) (@zb _)))) (@zi _ _ _ (zy (i:=6) sc_law_parts.nd rfl (Or.inr rfl) (@zk _ _ _ _ _ _ _ _ yn (pv 6) (zr zw rfl B.len yd (za (pv 4) (@zb _)))))))) (@zi _ _ _ (r6 (jb PySem.F.plainAttrs_list PySem.F.slot_list_append PySem.F.type_list_append my (pv 5) (@za _ _ _ _ _ (@y6 _ _ _ _ _ (@za _ _ _ _ _ (@z0 _ _ _ _ _ _ _ yc (zh sy (hr.mono (by decide)) rfl (@za _ _ _ _ _ (@z0 _ _ _ _ _ _ _ yc (@xp _ _ _ _ (@za _ _ _ _ _ (pv 2) (@za _ _ _ _ _ (@zk _ _ _ _ _ _ _ _ yn (@zk _ _ _ _ _ _ _ _ yx (pv 2) (@zd _ _ _ _)) (@zd _ _ _ _)) (@zb _) (yo nofun)) (yo nofun))) (@zk _ _ _ _ _ _ _ _ ye (@zk _ _ _ _ _ _ _ _ yx (pv 3) (@zd _ _ _ _)) (@zd _ _ _ _)) (fun _ _=>rfl)) (@za _ _ _ _ _ (@zd _ _ _ _) (@zb _) (yo nofun)) (yo nofun))) (pv 7) (fun _ _=>rfl)) (@za _ _ _ _ _ (pv 9) (@za _ _ _ _ _ (pv 10) (@zb _) (yo nofun)) (yo nofun)) (yo nofun))) (@zb _) (yo nofun)))))))))) (@zi _ _ _ (@zm _ _ _ _ (@y6 _ _ _ _ _ (za (pv 4) (za (pv 5) (@zb _)))))))))))),?_⟩;rw[show start ["script", "tops", "first", "shape", "outcomes", "hands", "k", "j", "size", "words", "worths", "word"] [V.ref a,V.ref tp]=[some (V.ref a),some (V.ref tp),none,none,none,none,none,none,none,none,none,none] from rfl];simp only[zg,zf,↓reduceIte];refine⟨a,ns,0,rfl,hS,?_⟩;simp only[zg,zf,↓reduceIte];refine⟨a,ns,1,rfl,hS,?_⟩;simp only[zg,zf,↓reduceIte];refine⟨by decide,zt ns 0,y7 ns,?_,?_,fun H1 o S1 ho ho1 => ?_⟩
    . have:=yt (zt ns 1) (show(0:Int)<8 by decide)
      rw[show((y7 ns:Nat):Int)=1+zt ns 1 % 8 by unfold y7;omega]
    . have:=mf ns;omega
    simp only[zg,zf,↓reduceIte];refine⟨by decide,fun b hb => ?_⟩;have hh:=yt (zt ns 1/8) (show(0:Int)<4 by decide);have hN:=ld ns;have hO:=mf ns;refine⟨⟨by decide,by decide⟩,by decide,by omega,by omega,?_⟩;rw[show(1+zt ns 1/8 % 4).toNat=w5 ns from rfl];refine xx (PvH a tp o b ns tops H1) ⟨[],_,_,_,_,_,NewHands.nil (Same.refl _) hb,rfl⟩ ?_ ?_
    . rintro j σ H' hj ⟨xs,t1,t2,t3,t4,t5,G,rfl⟩
      simp only[zg,zf,↓reduceIte];have SA:=S1.trans G.same;refine⟨a,ns,2,rfl,SA.seq hS,by decide,fun p1 hp1 => ?_⟩;have S2:Same H' (upd H' p1 (.lst [V.int 1,V.int 9,V.int 83,V.int 761])):=Same.upd (Same.refl _) hp1;have hl2:upd H' p1 (.lst [V.int 1,V.int 9,V.int 83,V.int 761]) p1=some (.lst [V.int 1,V.int 9,V.int 83,V.int 761]):=zc;generalize upd H' p1 (.lst [V.int 1,V.int 9,V.int 83,V.int 761])=H2 at *
      have hdiv:[V.int 1,V.int 9,V.int 83,V.int 761][j]? = some (V.int (([1,9,83,761]:List Int).getD j 0))/\0<([1,9,83,761]:List Int).getD j 0/\([1,9,83,761]:List Int).getD j 0<1073741824:=by
        have:∀k:Fin 4,[V.int 1,V.int 9,V.int 83,V.int 761][k.val]? = some (V.int (([1,9,83,761]:List Int).getD k.val 0))/\0<([1,9,83,761]:List Int).getD k.val 0/\([1,9,83,761]:List Int).getD k.val 0<1073741824:=by decide
        exact this ⟨j,by omega⟩
      refine⟨_,.of hl2,_,z7 hdiv.1,?_⟩;simp only[zg,zf,↓reduceIte];obtain⟨t,et,et2,ht1,ht2⟩:=ht.get ns;refine⟨⟨hdiv.2.1,hdiv.2.2⟩,⟨by decide,by decide⟩,by decide,_,(SA.trans S2).seq hT,_,za5 hh.1 (v:=V.int t) (by rw[Ze,et];rfl),?_⟩;simp only[zg,zf,↓reduceIte];refine⟨by omega,⟨by decide,by decide⟩,a,ns,3,rfl,(SA.trans S2).seq hS,?_⟩;simp only[zg,zf,↓reduceIte];refine⟨.inl ⟨by decide,by decide⟩,by decide,fun p2 hp2 => ?_⟩;have S3:Same H2 (upd H2 p2 (.lst [V.int (zt ns 0),V.int (zt ns 0/5+j),V.int (zt ns 3+31*j)])):=Same.upd (Same.refl _) hp2;have hl3:upd H2 p2 (.lst [V.int (zt ns 0),V.int (zt ns 0/5+j),V.int (zt ns 3+31*j)]) p2=some (.lst [V.int (zt ns 0),V.int (zt ns 0/5+j),V.int (zt ns 3+31*j)]):=zc;generalize upd H2 p2 (.lst [V.int (zt ns 0),V.int (zt ns 0/5+j),V.int (zt ns 3+31*j)])=H3 at *;have h32:=yt (zt ns 1/32) (show(0:Int)<3 by decide)
      have hw3:[V.int (zt ns 0),V.int (zt ns 0/5+j),V.int (zt ns 3+31*j)][(zt ns 1/32 % 3).toNat]? = some (V.int (kt ns j)):=by
        unfold kt;have:(zt ns 1/32 % 3).toNat<3:=by omega
        generalize (zt ns 1/32 % 3).toNat=m at this ⊢
        match m,this with
        | 0,_=>rfl
        | 1,_=>rfl
        | 2,_=>rfl
      refine⟨⟨by decide,by decide⟩,by decide,_,.of hl3,_,za5 h32.1 hw3,kt ns j,x5 ns tops j,?_,?_,fun H4 wl S4 hwl hwl4 => ?_⟩
      . have:=yt (zt ns 2/([1,9,83,761]:List Int).getD j 0) (show 0<t by omega)
        rw[show((x5 ns tops j:Nat):Int)=1+zt ns 2/([1,9,83,761]:List Int).getD j 0 % t by unfold x5;rw[et2];omega]
      . have:=pi (ns:=ns) ht j;omega
      refine⟨by decide,fun g hg => ?_⟩;have hwN:=pi (ns:=ns) ht j;have SB:=(SA.trans S2).trans (S3.trans S4);have GG:=(G.more S2).more (S3.trans S4);have hwg:upd H4 g (.lst []) wl=some (.lst ((xn (kt ns j) (x5 ns tops j)).map V.str)):=by rw[zp (y3 hwl4 hg)];exact hwl4
      refine⟨_,rfl,⟨_,.of hwg⟩,?_⟩;refine w9 (K:=K) (xs:=(xn (kt ns j) (x5 ns tops j)).map V.str) (PvG a tp o b g wl ns tops H4 j) ⟨[],_,_,NewGrid.nil (Same.refl _) hg,by rw[Nat.zero_mul,Nat.add_zero]⟩ ?_ ?_ ?_
      . rintro m σ H5 hm ⟨gs,t2,t5,NG,rfl⟩
        exact .of (NG.same _ _ hwl4)
      . rintro m x σ H5 hx ⟨gs,t2,t5,NG,rfl⟩
        simp only[zg,zf,↓reduceIte];have So:Same H1 H5:=(G.same.trans (S2.trans (S3.trans S4))).trans NG.same;have ho5:H5 o=some (.lst ((qq ns).map V.str)):=So _ _ ho1
        have hm:m<x5 ns tops j:=by
          have:=(Zc.mp hx).1;rw[Za,wa]at this;exact this
        have hol:((qq ns).map V.str).length=y7 ns:=by rw[Za,qq,wa]
        refine⟨.inl ⟨rfl,_,.of NG.at'⟩,_,.inl (.of ho5),?_⟩;rw[hol,Zw];refine⟨by omega,by omega,fun d => ?_⟩;refine x8 (PvR ns H5 (xi ns tops j+m*y7 ns)) ⟨rfl,rfl⟩ ?_ ?_ ?_
        . rintro i ys H6 hi ⟨rfl,rfl⟩
          rw[Za,g8];exact Zd (show i<=8 by omega) (by decide)
        . rintro i ys H6 hi ⟨rfl,rfl⟩
          simp only[zg,zf,↓reduceIte];refine⟨a,ns,xi ns tops j+m*y7 ns+i,?_,(S1.trans So).seq hS,?_⟩
          . rw[show((xi ns tops j+m*y7 ns:Nat):Int)+(i:Int)=((xi ns tops j+m*y7 ns+i:Nat):Int) by omega]
          refine⟨_,rfl,rfl,?_⟩;rw[zgt,Zn];rfl
        . rintro ys H6 ⟨rfl,rfl⟩ l hl
          have hgl:g≠l:=y3 NG.at' hl;refine⟨gs.map V.ref,by rw[zp hgl];exact NG.at',?_,(qq ns).map V.str,.inl ?_,?_⟩
          . rw[Za,NG.lb]
            exact Zh hm (Zd hwN.2 (by decide))
          . have hog:o≠g:=fun e=>by
              have h1:=(G.same.trans (S2.trans (S3.trans S4))) _ _ ho1;rw[e,hg]at h1;cases h1
            have hol2:o≠l:=y3 ho5 hl;exact .of (by rw[zp hog,zp hol2];exact ho5)
          . have NG2:=NG.laid (c:=l) (o:=.lst ((rowA ns (xi ns tops j+m*y7 ns) (y7 ns)).map V.int)) hl
            have NG3:=NG2.snoc (c:=l) (ns:=rowA ns (xi ns tops j+m*y7 ns) (y7 ns)) (NG.same.free hl) zc (g8 ..) (fun z=>by
              obtain⟨k,hk,e⟩:=Zy z;have e1:gs[k]? = some l:=by rw[<-e];simp[hk]
              have hk2:k<(vx ns (xi ns tops j) (y7 ns) m).length:=by rw[NG.lr,<-NG.lb];exact hk
              have e2:(vx ns (xi ns tops j) (y7 ns) m)[k]? = some (vx ns (xi ns tops j) (y7 ns) m)[k]:=by simp[hk2]
              have:=(NG.row k l _ e1 e2).1
              rw[hl]at this;cases this) (Ne.symm hgl)
            refine⟨gs++[l],t2,some x,?_,?_⟩
            . rw[ze0]
              exact NG3
            . rw[hol,show((xi ns tops j+m*y7 ns:Nat):Int)+(y7 ns:Int)=((xi ns tops j+(m+1)*y7 ns:Nat):Int) by rw[Nat.succ_mul];omega]
      . rintro σ H5 ⟨gs,t2,t5,NG,rfl⟩
        rw[Za,wa]at NG ⊢;simp only[zg,zf,↓reduceIte];have S5:=NG.same;have GH:=GG.more S5;have hb5:=GH.at';refine⟨.inl ⟨rfl,_,.of hb5⟩,⟨by decide,by decide⟩,by decide,fun p3 hp3 => ?_⟩;have S6:Same H5 (upd H5 p3 (.lst [V.int (zt ns 0),V.int (zt ns 0/7+2)])):=Same.upd (Same.refl _) hp3;have hl6:upd H5 p3 (.lst [V.int (zt ns 0),V.int (zt ns 0/7+2)]) p3=some (.lst [V.int (zt ns 0),V.int (zt ns 0/7+2)]):=zc;generalize upd H5 p3 (.lst [V.int (zt ns 0),V.int (zt ns 0/7+2)])=H6 at *;have h96:=yt (zt ns 1/96) (show(0:Int)<2 by decide)
        have hw6:[V.int (zt ns 0),V.int (zt ns 0/7+2)][(zt ns 1/96 % 2).toNat]? = some (V.int (ux ns)):=by
          unfold ux;have:(zt ns 1/96 % 2).toNat<2:=by omega
          generalize (zt ns 1/96 % 2).toNat=m at this ⊢
          match m,this with
          | 0,_=>rfl
          | 1,_=>rfl
        refine⟨⟨by decide,by decide⟩,by decide,_,.of hl6,_,za5 h96.1 hw6,ux ns,4,rfl,by decide,fun H7 l S7 hl hl7 => ?_⟩;have hj4:j<4:=by omega
        refine⟨_,rfl,_,.of hl7,V.str (vc (ux ns) j),?_,by decide,fun tt htt => ?_⟩
        . refine z7 ?_
          rw[Ze,xn,Ze,List.getElem?_range hj4];rfl
        have S57:=S6.trans S7;have S8:Same H7 (upd H7 tt (.tup [V.str (vc (ux ns) j),V.ref wl,V.ref g])):=Same.upd (Same.refl _) htt;have htt8:upd H7 tt (.tup [V.str (vc (ux ns) j),V.ref wl,V.ref g]) tt=some (.tup [V.str (vc (ux ns) j),V.ref wl,V.ref g]):=zc;generalize upd H7 tt (.tup [V.str (vc (ux ns) j),V.ref wl,V.ref g])=H8 at *;have S58:=S57.trans S8;have G7:=GH.more S57;have G8:=GH.more S58;have hb8:=G8.at';have hd:HandAt H8 ⟨tt,wl,g,gs⟩ (ar ns tops j):=⟨htt8,S58 _ _ (S5 _ _ hwl4),S58 _ _ NG.at',by rw[NG.lb];exact(br ..).symm,fun i r ms e1 e2=>S58 _ _ (NG.row i r ms e1 e2).1⟩
        have h4:∀y∈g::gs,H4 y=none:=fun y hy=>by
          rcases ZK.mp hy with e | z
          . rw[e];exact hg
          . exact NG.nr y z
        have S14:Same H1 H4:=GG.same;have S13:Same H1 H3:=G.same.trans (S2.trans S3)
        have h5:∀y∈wl::g::gs,H5 y≠none:=fun y hy=>by
          rcases ZK.mp hy with e | z
          . rw[e,S5 _ _ hwl4];simp
          rcases ZK.mp z with e | z
          . rw[e,NG.at'];simp
          . obtain⟨k,hk,e⟩:=Zy z
            have e1:gs[k]? = some y:=by rw[<-e];simp[hk]
            have hk2:k<(vx ns (xi ns tops j) (y7 ns) (x5 ns tops j)).length:=by rw[NG.lr,<-NG.lb];exact hk
            have e2:(vx ns (xi ns tops j) (y7 ns) (x5 ns tops j))[k]? = some (vx ns (xi ns tops j) (y7 ns) (x5 ns tops j))[k]:=by simp[hk2]
            rw[(NG.row k y _ e1 e2).1];simp
        have htt5:H5 tt=none:=S57.free htt;have G3:=(G.more S2).more S3;refine⟨_,hb8,?_,?_⟩
        . rw[Za,G.len,ww,Za,Yi]
          exact Zh hj4 (by decide)
        refine⟨xs++[⟨tt,wl,g,gs⟩],_,_,_,_,_,?_,rfl⟩;rw[zcb];refine G8.snoc hd (fun y hy => ?_) ?_ (fun y hy => ?_) ?_
        . rcases ZK.mp hy with e | hy
          . rw[e];exact(S14.trans S5).free htt5
          rcases ZK.mp hy with e | hy
          . rw[e];exact S13.free hwl
          . exact S14.free (h4 y hy)
        . refine ZQ.mpr ⟨fun z=>h5 _ z htt5,ZQ.mpr ⟨fun z => ?_,ZQ.mpr ⟨NG.ne,NG.nd⟩⟩⟩
          have:=h4 _ z;rw[hwl4]at this;cases this
        . intro hz
          rcases ZK.mp hy with e | hy
          . rw[e]at hz;exact G7.old _ hz htt
          rcases ZK.mp hy with e | hy
          . rw[e]at hz;exact G3.old _ hz hwl
          . exact GG.old _ hz (h4 y hy)
        . intro hy
          rcases ZK.mp hy with e | hy
          . have:=G7.at'
            rw[e,htt]at this;cases this
          rcases ZK.mp hy with e | hy
          . have:=G3.at'
            rw[e,hwl]at this;cases this
          . have:=GG.at'
            rw[h4 _ hy]at this;cases this
    . rintro σ H' ⟨xs,t1,t2,t3,t4,t5,G,rfl⟩
      simp only[zg,zf,↓reduceIte];exact⟨by decide,fun p hp=>q H1 H' _ o b p xs S1 ho ho1 G hp rfl⟩
end
def ow(z:Str):Prop:=1<=z.length/\z.length<=8/\∀c∈z.cps.toList,97<=c/\c<=122
theorem zcp(i:Int):97<=letA i/\letA i<=122:=by
  have:=yt i (show(0:Int)<26 by decide);unfold letA;omega
theorem jo{z:Str}{n c:Nat}(h:c∈(xj z n).cps.toList):c∈z.cps.toList:=by
  unfold xj at h;simp only[List.toList_toArray,YM]at h;obtain⟨l,h1,h2⟩:=h;rw[(List.mem_replicate.mp h1).2]at h2;exact h2
theorem gj{y z:Str}{c:Nat}(h:c∈(y++z).cps.toList):c∈y.cps.toList\/c∈z.cps.toList:=by
  have:(y++z).cps.toList=y.cps.toList++z.cps.toList:=by
    show(y.cps++z.cps).toList=_
    simp
  rw[this]at h;exact ZH.mp h
theorem zaa(c:Int):1<=ui c/\ui c<=8:=by
  have:=yt (numA c/24336) (show(0:Int)<8 by decide);unfold ui;omega
theorem zg0(c:Int):0<=so c/\so c<ui c:=yt _ (by have:=zaa c;omega)
theorem m6(c:Int):(mt c).length=1:=rfl
theorem ic{c:Int}{d:Nat}(h:d∈(mt c).cps.toList):97<=d/\d<=122:=by
  have:d=letA (numA c):=by simpa[mt,chr1] using h
  rw[this];exact zcp _
theorem dj(c:Int){k:Nat}(hk:k<8):ow (vc c k):=by
  unfold vc;have hs:=zaa c;have hp:=zg0 c
  by_cases h:numA c/26 % 3=1
  . rw[if_pos h]
    refine⟨?_,?_,fun d hd=>ic (jo hd)⟩ <;> rw[xv,m6] <;> omega
  . rw[if_neg h]
    refine⟨?_,?_,fun d hd => ?_⟩
    . rw[uy,uy,xv,xv,m6]
      show 1<=_+1+_
      omega
    . rw[uy,uy,xv,xv,m6]
      show _+1+_<=8
      omega
    . rcases gj hd with z | z
      . rcases gj z with z | z
        . exact ic (jo z)
        . have:d=letA (numA c/78 % 26+sh c*k):=by simpa[chr1] using z
          rw[this];exact zcp _
      . exact ic (jo z)
theorem zj6{x y:Str}{n:Nat}{a b:Nat}(f:Str)(h:xj f n++chr1 a++x=xj f n++chr1 b++y):a=b:=by
  have h1:(xj f n++chr1 a++x).cps.toList=(xj f n++chr1 b++y).cps.toList:=by rw[h]
  have e:∀(z:Str) (a:Nat),(xj f n++chr1 a++z).cps.toList=(xj f n).cps.toList++([a]++z.cps.toList):=fun z a=>by
    show(((xj f n).cps++(chr1 a).cps)++z.cps).toList=_
    simp[chr1]
  rw[e,e]at h1;have:=List.append_cancel_left h1;simp at this;exact this.1
theorem zby(c:Int):sh c∈stepsA:=by
  have:=yt (numA c/2028) (show(0:Int)<12 by decide);unfold sh;have hl:(numA c/2028 % 12).toNat<stepsA.length:=by show _<12;omega
  rw[Zk,Zb hl];exact Zl hl
theorem zhw{c:Int}{b:Int}{i j:Nat}(hi:i<13)(hj:j<13)(h:letA (b+sh c*i)=letA (b+sh c*j)):i=j:=by
  have hs:=zby c;generalize sh c=st at hs h;have h1:=yt (b+st*i) (show(0:Int)<26 by decide);have h2:=yt (b+st*j) (show(0:Int)<26 by decide);have h3:(b+st*i) % 26=(b+st*j) % 26:=by unfold letA at h;omega
  simp only[stepsA,ZK,Zx,or_false]at hs
  rcases hs with rfl | rfl | rfl | rfl | rfl | rfl | rfl | rfl | rfl | rfl | rfl | rfl <;> omega
theorem zf3(c:Int){i j:Nat}(hi:i<13)(hj:j<13)(h:vc c i=vc c j):i=j:=by
  unfold vc at h
  by_cases q:numA c/26 % 3=1
  . rw[if_pos q,if_pos q]at h
    have:=congrArg Str.length h;rw[xv,xv,m6]at this;omega
  . rw[if_neg q,if_neg q]at h
    exact zhw hi hj (zj6 _ h)
theorem l9(c:Int){n:Nat}(hn:n<=13):(xn c n).Nodup:=by
  unfold xn;refine YG.mpr ?_;refine List.Pairwise.imp_of_mem ?_ (List.nodup_range (n:=n));intro i j hi hj hne e;exact hne (zf3 c (by have:=ZV.mp hi;omega) (by have:=ZV.mp hj;omega) e)
theorem dh(c:Int){n:Nat}(hn:n<=8):∀z∈xn c n,ow z:=fun z hz=>by
  obtain⟨i,hi,rfl⟩:=Zp.mp hz;exact dj c (by have:=ZV.mp hi;omega)
theorem zgk(c:Int) : -(10^60)<nj c/\nj c<10^60:=by
  unfold nj;have h1:=yt (c/5) (show(0:Int)<10^18 by decide);have h2:=yt (c/5) (show(0:Int)<2*10^60-1 by decide);have h3:=yt (c/5) (show(0:Int)<19 by decide)
  split
  . omega
  . split
    . omega
    . split
      . exact⟨by decide,by decide⟩
      . omega
def strT(z:Str):Tr:=.lf (.str z)
def intT(i:Int):Tr:=.lf (.int i)
def rowT(ns:List Int):Tr:=.tp (ns.map intT)
def zfa(d:HD):Tr:=.tp [strT d.name,.tp (d.words.map strT),.tp (d.worths.map rowT)]
def houseT(outs:List Str)(ds:List HD):Tr:=.tp [.tp (outs.map strT),.tp (ds.map zfa)]
structure HandsL(H:Hp)(b:Addr)(xs:List HX)(ds:List HD):Prop where
  at':H b=some (.lst (xs.map fun x=>V.ref x.t))
  len:xs.length=ds.length
  hand:∀(i:Nat) (x:HX) (d:HD),xs[i]? = some x->ds[i]? = some d->HandAt H x d
theorem NewHands.lists{H H':Hp}{b:Addr}{xs:List HX}{ds:List HD}(g:NewHands H H' b xs ds):HandsL H' b xs ds:=⟨g.at',g.len,g.hand⟩
theorem HandsL.mono{H H':Hp}{b:Addr}{xs:List HX}{ds:List HD}(S:Same H H')(g:HandsL H b xs ds):HandsL H' b xs ds:=⟨S _ _ g.at',g.len,fun i x d e1 e2=>(g.hand i x d e1 e2).mono S⟩
theorem i4{K:Fg}{H:Hp}:∀(zs:List Str),TrsAt K H (zs.map strT) (zs.map V.str)
  | []=>TrsAt.nil
  | z::zs=>TrsAt.cons (TrAt.lf rfl) (i4 zs)
theorem cf{K:Fg}{H:Hp}:∀(zs:List Int),TrsAt K H (zs.map intT) (zs.map V.int)
  | []=>TrsAt.nil
  | z::zs=>TrsAt.cons (TrAt.lf rfl) (cf zs)
def PvD(K:Fg)(ds:List HD)(H1:Hp)(i:Nat)(ys:List V)(H':Hp):Prop:=Same H1 H'/\ys.length=i/\TrsAt K H' ((ds.take i).map zfa) ys
def PvE(K:Fg)(rows:List (List Int))(H1:Hp)(i:Nat)(ys:List V)(H':Hp):Prop:=Same H1 H'/\ys.length=i/\TrsAt K H' ((rows.take i).map rowT) ys
section
variable{P:Program}{w:World}{K:Fg}{mg:Str->Option Value}{base:Heap}
end
def rowL(ns:List Int):Tr:=.ls (ns.map intT)
def zek(d:HD):Tr:=.tp [strT d.name,.ls (d.words.map strT),.ls (d.worths.map rowL)]
theorem zc6{K:Fg}{H:Hp}:∀{gs:List Addr} {rows:List (List Int)},gs.length=rows.length->(∀(i:Nat) (r:Addr) (ns:List Int),gs[i]? = some r->rows[i]? = some ns->H r=some (.lst (ns.map V.int)))->TrsAt K H (rows.map rowL) (gs.map V.ref)
  | [],[],_,_=>TrsAt.nil
  | g::gs,r::rows,hl,h=>TrsAt.cons (TrAt.ls (.of (h 0 g r rfl rfl)) (cf r)) (zc6 (by simpa using hl) fun i a b e1 e2=>h (i+1) a b e1 e2)
theorem HandAt.tree{K:Fg}{H:Hp}{x:HX}{d:HD}(h:HandAt H x d):TrAt K H (zek d) (.ref x.t) :=
  TrAt.tp (.of h.tup) (TrsAt.cons (TrAt.lf rfl) (TrsAt.cons (TrAt.ls (.of h.words) (i4 _)) (TrsAt.cons (TrAt.ls (.of h.grid) (zc6 h.len h.row)) TrsAt.nil)))
theorem zal{K:Fg}{H:Hp}:∀{xs:List HX} {ds:List HD},xs.length=ds.length->(∀(i:Nat) (x:HX) (d:HD),xs[i]? = some x->ds[i]? = some d->HandAt H x d)->TrsAt K H (ds.map zek) (xs.map fun x=>V.ref x.t)
  | [],[],_,_=>TrsAt.nil
  | x::xs,d::ds,hl,h=>TrsAt.cons (h 0 x d rfl rfl).tree (zal (by simpa using hl) fun i a b e1 e2=>h (i+1) a b e1 e2)
theorem HandsL.tree{K:Fg}{H:Hp}{b:Addr}{xs:List HX}{ds:List HD}(h:HandsL H b xs ds):TrAt K H (.ls (ds.map zek)) (.ref b):=TrAt.ls (.of h.at') (zal h.len h.hand)
mutual
def tups:Tr->Bool
  | .lf _=>true
  | .ls _=>false
  | .tp ts=>ay ts
def ay:List Tr->Bool
  | []=>true
  | t::ts=>tups t&&ay ts
end
mutual
theorem TrAt.past{K:Fg}{H:Hp}{a:Addr}{xs ys:List V}(ha:H a=some (.lst xs)):∀{t:Tr} {x:V},tups t=true->TrAt K H t x->TrAt K (upd H a (.lst ys)) t x
  | .lf v,x,_,h=>by rw[TrAt]at h ⊢;exact h
  | .ls ts,x,p,h=>by rw[tups]at p;cases p
  | .tp ts,x,p,h=>by
    rw[tups]at p;rw[TrAt]at h ⊢;obtain⟨c,us,e,sq,h⟩:=h;refine⟨c,us,e,?_,TrsAt.past ha p h⟩
    have ne:∀o,H c=some o->(∀zs,o≠.lst zs)->upd H a (.lst ys) c=some o:=fun o q n=>by
      rw[zp (fun e=>by rw[e,ha]at q;cases q;exact n _ rfl)];exact q
    rcases sq with (q | ⟨o,q⟩) | q
    . exact .inl (.inl (ne _ q (by intro zs z;cases z)))
    . exact .inl (.inr ⟨o,ne _ q (by intro zs z;cases z)⟩)
    . exact .inr q
theorem TrsAt.past{K:Fg}{H:Hp}{a:Addr}{xs ys:List V}(ha:H a=some (.lst xs)):∀{ts:List Tr} {us:List V},ay ts=true->TrsAt K H ts us->TrsAt K (upd H a (.lst ys)) ts us
  | [],us,_,h=>by rw[TrsAt]at h ⊢;exact h
  | t::ts,us,p,h=>by
    rw[ay,Bool.and_eq_true]at p;rw[TrsAt]at h ⊢;obtain⟨y,zs,e,h1,h2⟩:=h;exact⟨y,zs,e,TrAt.past ha p.1 h1,TrsAt.past ha p.2 h2⟩
end
structure GoodHouse(outs:List Str)(ds:List HD):Prop where
  outs1:1<=outs.length/\outs.length<=8
  outsG:∀z∈outs,ow z
  outsD:outs.Nodup
  hands:1<=ds.length/\ds.length<=4
  handsG:∀d∈ds,ow d.name
  handsD:(ds.map HD.name).Nodup
  words1:∀d∈ds,1<=d.words.length/\d.words.length<=8
  wordsG:∀d∈ds,∀z∈d.words,ow z
  wordsD:∀d∈ds,d.words.Nodup
  rows:∀d∈ds,d.worths.length=d.words.length
  cols:∀d∈ds,∀r∈d.worths,r.length=outs.length
  nums:∀d∈ds,∀r∈d.worths,∀n∈r,-(10^60)<n/\n<10^60
  few:(ds.map fun d=>d.words.length).prod<=256
def zjx(K:Fg):Sp:=fun vs H Q _=>∃(o b:Addr) (outs:List Str) (xs:List HX) (ds:List HD),vs=[.ref o,.ref b]/\H o=some (.lst (outs.map V.str))/\HandsL H b xs ds/\GoodHouse outs ds /\
  ∀H' p us,Same H H'->H' p=some (.tup us)->TrAt K H' (houseT outs ds) (.ref p)->Q (.ref p) H'
theorem wz{ns tops:List Int}{m:Nat}{d:HD}(h:d∈ww ns tops m):∃j,j<m/\d=ar ns tops j:=by
  obtain⟨j,hj,rfl⟩:=Zp.mp h;exact⟨j,ZV.mp hj,rfl⟩
theorem zjp{n t:Nat}:∀{l:List Nat},(∀x∈l,x<=t)->l.length=n->l.prod<=t^n:=by
  induction n with
  | zero=>intro l _ hl;rw[Ym.mp hl];simp
  | succ n ih =>
    intro l h hl
    match l,hl with
    | x::l,hl =>
      rw[List.prod_cons,Nat.pow_succ,Nat.mul_comm];exact YV (ih (fun y hy=>h y (Zv _ hy)) (by simpa using hl)) (h x ZA)
def FewT(tops:List Int):Prop:=∀h,h<4->(tops.getD h 0).toNat^(h+1)<=256
theorem goodA(ns:List Int){tops:List Int}(ht:Tops tops)(hf:FewT tops):GoodHouse (qq ns) (ww ns tops (w5 ns)) where
  outs1:=by rw[qq,wa];exact mf ns
  outsG:=dh _ (mf ns).2
  outsD:=l9 _ (by have:=mf ns;omega)
  hands:=by rw[ww,Za,Yi];exact ld ns
  handsG:=fun d hd=>by
    obtain⟨j,hj,rfl⟩:=wz hd;exact dj _ (by have:=ld ns;omega)
  handsD:=by
    have:(ww ns tops (w5 ns)).map HD.name=xn (ux ns) (w5 ns):=by rw[ww,xn,Xc];rfl
    rw[this];exact l9 _ (by have:=ld ns;omega)
  words1:=fun d hd=>by
    obtain⟨j,hj,rfl⟩:=wz hd
    show 1<=(xn _ _).length/\(xn _ _).length<=8
    rw[wa];exact pi ht j
  wordsG:=fun d hd=>by
    obtain⟨j,hj,rfl⟩:=wz hd;exact dh _ (pi ht j).2
  wordsD:=fun d hd=>by
    obtain⟨j,hj,rfl⟩:=wz hd;exact l9 _ (by have:=pi (ns:=ns) ht j;omega)
  rows:=fun d hd=>by
    obtain⟨j,hj,rfl⟩:=wz hd
    show(vx _ _ _ _).length=(xn _ _).length
    rw[br,wa]
  cols:=fun d hd r hr=>by
    obtain⟨j,hj,rfl⟩:=wz hd;obtain⟨i,_,rfl⟩:=Zp.mp hr;rw[g8,qq,wa]
  nums:=fun d hd r hr n hn=>by
    obtain⟨j,hj,rfl⟩:=wz hd;obtain⟨i,_,rfl⟩:=Zp.mp hr;obtain⟨k,_,rfl⟩:=Zp.mp hn;exact zgk _
  few:=by
    obtain⟨t,e1,e2,h1,h2⟩:=ht.get ns;have hh:=yt (zt ns 1/8) (show(0:Int)<4 by decide);have h3:=hf (zt ns 1/8 % 4).toNat (by omega);rw[e2]at h3;refine Zd (zjp (n:=w5 ns) (t:=t.toNat) (fun x hx => ?_) (by rw[Za,ww,Za,Yi])) ?_
    . obtain⟨d,hd,rfl⟩:=Zp.mp hx
      obtain⟨j,hj,rfl⟩:=wz hd
      show(xn _ _).length<=_
      rw[wa];unfold x5;rw[e2];have:=yt (zt ns 2/([1,9,83,761]:List Int).getD j 0) (show 0<t by omega);omega
    . rw[show w5 ns=(zt ns 1/8 % 4).toNat+1 by unfold w5;omega]
      exact h3
def aq(i:Int):Prop := -(10^60)<i/\i<10^60
def zay:Sp:=fun vs H Q _=>∃i:Int,vs=[.int i]/\Q (.bl true) H
def zgu:Sp:=fun vs H Q _=>∃i:Int,vs=[.int i]/\aq i/\Q (.bl true) H
def qRow:Sp:=fun vs H Q _=>∃(r:Addr) (ns:List Int) (n:Nat),vs=[.ref r,.int n]/\H r=some (.lst (ns.map V.int))/\ns.length=n/\n<=8/\(∀i∈ns,aq i)/\∀H',Same H H'->Q (.bl true) H'
def zer:Sp:=fun vs H Q _=>∃z:Str,vs=[.str z]/\ow z/\∀H',Same H H'->Q (.bl true) H'
def zan:Sp:=fun vs H Q _=>∃(l:Addr) (zs:List Str) (m:Nat),vs=[.ref l,.int m]/\H l=some (.lst (zs.map V.str))/\1<=zs.length/\zs.length<=m/\m<=8/\(∀z∈zs,ow z)/\zs.Nodup/\∀H',Same H H'->Q (.bl true) H'
def zdk:Sp:=fun vs H Q _=>∃(g:Addr) (gs:List Addr) (rows:List (List Int)) (h n:Nat),vs=[.ref g,.int h,.int n]/\H g=some (.lst (gs.map V.ref))/\gs.length=h/\rows.length=h/\h<=8/\n<=8/\(∀(i:Nat) (r:Addr) (ns:List Int),gs[i]? = some r->rows[i]? = some ns->H r=some (.lst (ns.map V.int))) /\
  (∀r∈rows,r.length=n/\∀i∈r,aq i)/\∀H',Same H H'->Q (.bl true) H'
structure GoodD(d:HD)(n:Nat):Prop where
  name:ow d.name
  words:1<=d.words.length/\d.words.length<=8
  wordsG:∀z∈d.words,ow z
  wordsD:d.words.Nodup
  rows:d.worths.length=d.words.length
  cols:∀r∈d.worths,r.length=n/\∀i∈r,aq i
theorem GoodHouse.hand{outs:List Str}{ds:List HD}(g:GoodHouse outs ds){d:HD}(h:d∈ds):GoodD d outs.length :=
  ⟨g.handsG d h,g.words1 d h,g.wordsG d h,g.wordsD d h,g.rows d h,fun r hr=>⟨g.cols d h r hr,fun i hi=>g.nums d h r hr i hi⟩⟩
def qHand:Sp:=fun vs H Q _=>∃(x:HX) (d:HD) (n:Nat),vs=[.ref x.t,.int n]/\HandAt H x d/\GoodD d n/\n<=8/\∀H',Same H H'->Q (.bl true) H'
def rn(f:HX->HD->V):Sp:=fun vs H Q _=>∃(x:HX) (d:HD),vs=[.ref x.t]/\HandAt H x d/\Q (f x d) H
def zfq:Sp:=fun vs H Q _=>∃(b:Addr) (xs:List HX) (ds:List HD),vs=[.ref b]/\HandsL H b xs ds/\(∀d∈ds,d.words.length<=8)/\ds.length<=4/\Q (.int ((ds.map fun d=>d.words.length).prod:Nat)) H
def za6:Sp:=fun vs H Q _=>∃(o b:Addr) (outs:List Str) (xs:List HX) (ds:List HD),vs=[.ref o,.ref b]/\H o=some (.lst (outs.map V.str))/\HandsL H b xs ds/\GoodHouse outs ds/\∀H',Same H H'->Q (.bl true) H'
def qKept(K:Fg):Sp:=fun vs H Q _=>∃(x:HX) (d:HD),vs=[.ref x.t]/\HandAt H x d/\d.worths.length<=8/\∀H' p,Same H H'->TrAt K H' (zfa d) (.ref p)->Q (.ref p) H'
def allT(n:Nat):List Bool:=List.replicate n true
def PvAT(H:Hp)(i:Nat)(ys:List V)(H':Hp):Prop:=Same H H'/\ys=(allT i).map V.bl
theorem pp(n:Nat):(allT n).map V.bl++[V.bl true]=(allT (n+1)).map V.bl:=by
  rw[allT,allT,YT,Zn];rfl
theorem mj(n:Nat):(allT n).all id=true:=by
  rw[ZT];intro x hx;exact List.eq_of_mem_replicate hx
theorem ni(n:Nat):((allT n).map V.bl).length=n:=by rw[Za,allT,ZI]
theorem zc8{zs:List Str}(hd:zs.Nodup):∀i,i<=zs.length->seen (fun j=>zs.getD j ⟨#[]⟩) i=zs.take i
  | 0,_=>rfl
  | i+1,h=>by
    have ih:=zc8 hd i (by omega);have hi:i<zs.length:=by omega
    have e:zs.getD i ⟨#[]⟩=zs[i]:=by simp[Zk,hi]
    show(if zs.getD i ⟨#[]⟩∈seen (fun j=>zs.getD j ⟨#[]⟩) i then _ else seen (fun j=>zs.getD j ⟨#[]⟩) i++[zs.getD i ⟨#[]⟩])=_
    rw[ih,e,if_neg,Zq]
    . simp[hi]
    . intro hm
      obtain⟨j,hj,ej⟩:=Zy hm;rw[Zj]at hj;rw[List.getElem_take]at ej;have:=(YK hd).mp ej;omega
theorem zjf:kit0 "str" "str" = some true:=by decide +kernel
theorem ix:kit0 "list" "list" = some true:=by decide +kernel
theorem zja:kit0 "tuple" "tuple" = some true:=by decide +kernel
theorem zi0:kit0 "int" "int" = some true:=by decide +kernel
theorem zjg:kit0 "int" "bool" = some false:=by decide +kernel
theorem zj3{c:Nat}(h1:97<=c)(h2:c<=122):(!decide ((chr1 c).cps.toList<(Str.ofString "a").cps.toList))=true/\(!decide ((Str.ofString "z").cps.toList<(chr1 c).cps.toList))=true:=by
  have ea:(Str.ofString "a").cps.toList=[97]:=by decide +kernel
  have ez:(Str.ofString "z").cps.toList=[122]:=by decide +kernel
  have ec:(chr1 c).cps.toList=[c]:=rfl;rw[ea,ez,ec]
  constructor
  . rw[decide_eq_false]
    . rfl
    . intro z
      rw[List.cons_lt_cons_iff]at z
      rcases z with z | ⟨_,z⟩
      . omega
      . exact absurd z (by simp)
  . rw[decide_eq_false]
    . rfl
    . intro z
      rw[List.cons_lt_cons_iff]at z
      rcases z with z | ⟨_,z⟩
      . omega
      . exact absurd z (by simp)
def PvNm(H:Hp)(ds:List HD)(i:Nat)(ys:List V)(H':Hp):Prop:=H'=H/\ys=((ds.take i).map HD.name).map V.str
def PvCt(H:Hp)(b:Addr)(ds:List HD)(i:Nat)(σ:L2.St)(H4:Hp):Prop:=H4=H/\∃v,σ=[some (.ref b),some (.int (((ds.take i).map fun d=>d.words.length).prod:Nat)),v]
section
variable{P:Program}{w:World}{K:Fg}{mg:Str->Option Value}{base:Heap}{a:Ad}
theorem rm (B:Bt mg) (D:ze K mg "is_whole" ox ["thing"]):FnAt P w K mg base "is_whole" 1 ["thing"] zay:=by
  refine FnAt.of D zbx (fun vs H Q E h => ?_) (fun f cdv A outer s H vs Q E hr h => ?_)
  . obtain⟨x,rfl,_⟩:=h
    rfl
  . obtain⟨x,rfl,q⟩:=h
    refine⟨_,(@zi _ _ _ (@zm _ _ _ _ (@pc _ _ _ _ _ _ _ (zr xf rfl B.isinstance y4 (za (pv 0) (za (sf rfl B.int zhg) (@zb _)))) (@q8 _ _ _ _ _ (@pe_not _ _ _ _ (zr xf rfl B.isinstance y4 (za (pv 0) (za (sf rfl B.bool zj8) (@zb _))))))))),?_⟩;rw[show start ["thing"] [V.int x]=[some (V.int x)] from rfl];simp only[zg,zf,↓reduceIte];exact⟨_,.int _,true,zi0,iteT ⟨_,.int _,false,zjg,q⟩⟩
theorem o9 (B:Bt mg) (rm:FnAt P w K mg base "is_whole" 1 ["thing"] zay) (D:ze K mg "is_bounded" rc ["thing"]):FnAt P w K mg base "is_bounded" 2 ["thing"] zgu:=by
  refine FnAt.of D ai (fun vs H Q E h => ?_) (fun f cdv A outer s H vs Q E hr h => ?_)
  . obtain⟨x,rfl,_⟩:=h
    rfl
  . obtain⟨x,rfl,g,q⟩:=h
    refine⟨_,(@zi _ _ _ (@zm _ _ _ _ (@pc _ _ _ _ _ _ _ (zh rm (hr.mono (by decide)) rfl (za (pv 0) (@zb _))) (@q8 _ _ _ _ _ (@tw _ _ _ _ _ _ _ _ lq (zr zh7 rfl B.abs bt_abs (za (pv 0) (@zb _))) (@zk _ _ _ _ _ _ _ _ rf (@zd _ _ _ _) (@zd _ _ _ _)) (yk _)))))),?_⟩;rw[show start ["thing"] [V.int x]=[some (V.int x)] from rfl];simp only[zg,zf,↓reduceIte];refine⟨x,rfl,_,rfl,iteT ⟨⟨by decide,by decide,by decide⟩,?_⟩⟩;rw[decide_eq_true]
    . exact q
    . have h1:=g.1
      have h2:=g.2
      show _<(10:Int)^60
      split <;> omega
theorem pz (B:Bt mg) (o9:FnAt P w K mg base "is_bounded" 2 ["thing"] zgu) (D:ze K mg "is_grid_row" u4 ["thing", "width"]):FnAt P w K mg base "is_grid_row" 3 ["thing", "width"] qRow:=by
  refine FnAt.of D cv (fun vs H Q E h => ?_) (fun f cdv A outer s H vs Q E hr h => ?_)
  . obtain⟨r,ns,n,rfl,_⟩:=h
    rfl
  . obtain⟨r,ns,n,rfl,hr1,ln,n8,hg,q⟩:=h
    refine⟨_,(@zj _ _ _ _ _ (@yu _ _ _ _ _ _ _ _ (PW.pt (@oq _ _ _ _ _ _ _ (@x6 _ _ _ _ (wm (zr xf rfl B.isinstance y4 (za (pv 0) (za (sf rfl B.list i6) (@zb _)))))) (@se _ _ _ _ (@yp _ _ _ _ _ _ _ _ dq (zr zw rfl B.len yd (za (pv 0) (@zb _))) (pv 1) (yk _))))) (@zi _ _ _ (@zm _ _ _ _ (@vv _ _ _ _))) (@yg _)) (@zi _ _ _ (@zm _ _ _ _ (zr (ud rfl) rfl B.all o8 (za (yh ["worth"] ["thing", "width"] rfl (@yb _ _ _ _ (pv 0)) (fun _=>(zn (i:=0) (show(["worth", "thing", "width"]:List Str).Nodup by decide +kernel) rfl (Or.inl rfl))) (fun _=>(@z8 _)) (fun _=>(zh o9 (hr.mono (by decide)) rfl (za (pv 0) (@zb _)))) rfl (by decide +kernel) rfl rfl) (@zb _)))))),?_⟩;rw[show start ["thing", "width"] [V.ref r,V.int n]=[some (V.ref r),some (V.int n)] from rfl];simp only[zg,zf,↓reduceIte];refine⟨_,.lst hr1,true,ix,iteF ⟨_,.inl (.of hr1),rfl,?_⟩⟩;rw[Za,ln];refine zfd rfl ⟨⟨_,.of hr1⟩,fun d => ?_⟩;refine yf (xs:=ns.map V.int) (PvAT H) ⟨Same.refl _,rfl⟩ ?_ ?_ ?_
    . rintro i ys H2 hi ⟨S,rfl⟩
      rw[Za]at hi;exact⟨by rw[ni];exact Zd hi (Zd (show ns.length<=8 by omega) (by decide)),S.seq (.of hr1)⟩
    . rintro i x ys H2 hx ⟨S,rfl⟩
      obtain⟨y,hy,rfl⟩:=yl hx;simp only[zg,zf,↓reduceIte];exact⟨y,rfl,hg y (Zi hy),S,pp i⟩
    . rintro ys H2 ⟨S,rfl⟩ l hl
      refine⟨_,.of zc,?_⟩;rw[mj];exact q _ (S.trans (Same.upd (Same.refl _) hl))
theorem pj (B:Bt mg) (D:ze K mg "is_name" ll ["thing"]):FnAt P w K mg base "is_name" 1 ["thing"] zer:=by
  refine FnAt.of D zec (fun vs H Q E h => ?_) (fun f cdv A outer s H vs Q E hr h => ?_)
  . obtain⟨x,rfl,_⟩:=h
    rfl
  . obtain⟨z,rfl,g,q⟩:=h
    refine⟨_,(@zj _ _ _ _ _ (@yu _ _ _ _ _ _ _ _ (PW.pt (@oq _ _ _ _ _ _ _ (@x6 _ _ _ _ (wm (zr xf rfl B.isinstance y4 (za (pv 0) (za (sf rfl B.str zfj) (@zb _)))))) (@se _ _ _ _ (@x6 _ _ _ _ (za0 dy dy (@zd _ _ _ _) (zr zbq rfl B.len yd (za (pv 0) (@zb _))) (nu rfl B.k_MOST_LETTERS)))))) (@zi _ _ _ (@zm _ _ _ _ (@vv _ _ _ _))) (@yg _)) (@zi _ _ _ (@zm _ _ _ _ (zr (ud rfl) rfl B.all o8 (za (yh ["sign"] ["thing"] rfl (@pi_str _ _ _ _ (pv 0)) (fun _=>(zn (i:=0) (show(["sign", "thing"]:List Str).Nodup by decide +kernel) rfl (Or.inl rfl))) (fun _=>(@z8 _)) (fun _=>(zh1 zfw zfw (@u0 _ _ _ _) (pv 0) (@u0 _ _ _ _))) rfl (by decide +kernel) rfl rfl) (@zb _)))))),?_⟩;rw[show start ["thing"] [V.str z]=[some (V.str z)] from rfl];simp only[zg,zf,↓reduceIte];obtain⟨g1,g2,g3⟩:=g;refine⟨_,.str _,true,zjf,iteF ?_⟩;refine⟨Zd g2 (by decide),ite2 (fun _=>ite2 (fun h => ?_) fun _ => ?_) fun h=>(h (decide_eq_true (by omega))).elim⟩
    . rw[decide_eq_true (show(z.length:Int)<=8 by omega)]at h
      cases h
    . intro d
      refine zij (PvAT H) ⟨Same.refl _,rfl⟩ ?_ ?_ ?_
      . rintro i ys H' hi ⟨S,rfl⟩
        rw[ni];exact Zd hi (Zd (show z.cps.size<=8 from g2) (by decide))
      . rintro i c ys H' hc ⟨S,rfl⟩
        have hm:c∈z.cps.toList:=by
          obtain⟨hi,e⟩:=Array.getElem?_eq_some_iff.mp hc;rw[<-e];exact Array.getElem_mem_toList hi
        obtain⟨o1,o2⟩:=zj3 (g3 c hm).1 (g3 c hm).2;simp only[zg,zf,↓reduceIte];rw[if_pos o1,o2];exact⟨S,pp i⟩
      . rintro ys H' ⟨S,rfl⟩ l hl
        refine⟨_,.of zc,?_⟩;rw[mj];exact q _ (S.trans (Same.upd (Same.refl _) hl))
theorem vn (B:Bt mg) (pj:FnAt P w K mg base "is_name" 1 ["thing"] zer) (D:ze K mg "are_names" qw ["thing", "most"]):FnAt P w K mg base "are_names" 2 ["thing", "most"] zan:=by
  refine FnAt.of D zbv (fun vs H Q E h => ?_) (fun f cdv A outer s H vs Q E hr h => ?_)
  . obtain⟨l,zs,m,rfl,_⟩:=h
    rfl
  . obtain⟨l,zs,m,rfl,hl,g1,g2,g3,gG,gD,q⟩:=h
    refine⟨_,(@zj _ _ _ _ _ (@yu _ _ _ _ _ _ _ _ (PW.pt (@oq _ _ _ _ _ _ _ (@x6 _ _ _ _ (wm (zr xf rfl B.isinstance y4 (za (pv 0) (za (sf rfl B.list i6) (@zb _)))))) (@se _ _ _ _ (@x6 _ _ _ _ (za0 dy dy (@zd _ _ _ _) (zr zw rfl B.len yd (za (pv 0) (@zb _))) (pv 1)))))) (@zi _ _ _ (@zm _ _ _ _ (@vv _ _ _ _))) (@yg _)) (@zi _ _ _ (@zm _ _ _ _ (@pc _ _ _ _ _ _ _ (zr (ud rfl) rfl B.all o8 (za (yh ["one"] ["thing", "most"] rfl (@yb _ _ _ _ (pv 0)) (fun _=>(zn (i:=0) (show(["one", "thing", "most"]:List Str).Nodup by decide +kernel) rfl (Or.inl rfl))) (fun _=>(@z8 _)) (fun _=>(zh pj (hr.mono (by decide)) rfl (za (pv 0) (@zb _)))) rfl (by decide +kernel) rfl rfl) (@zb _))) (@q8 _ _ _ _ _ (@tw _ _ _ _ _ _ _ _ sv (zg1 rfl rfl B.len rfl B.set (za (pv 0) (@zb _))) (zr zw rfl B.len yd (za (pv 0) (@zb _))) (yk _))))))),?_⟩;rw[show start ["thing", "most"] [V.ref l,V.int m]=[some (V.ref l),some (V.int m)] from rfl];simp only[zg,zf,↓reduceIte];refine⟨_,.lst hl,true,ix,iteF ⟨_,.inl (.of hl),?_⟩⟩;rw[Za];refine ite2 (fun _=>ite2 (fun h => ?_) fun _ => ?_) fun h=>(h (decide_eq_true (by omega))).elim
    . rw[decide_eq_true (show(zs.length:Int)<=m by omega)]at h
      cases h
    . refine⟨⟨_,.of hl⟩,fun d => ?_⟩
      refine yf (xs:=zs.map V.str) (PvAT H) ⟨Same.refl _,rfl⟩ ?_ ?_ ?_
      . rintro i ys H2 hi ⟨S,rfl⟩
        rw[Za]at hi;exact⟨by rw[ni];exact Zd hi (Zd (show zs.length<=8 by omega) (by decide)),S.seq (.of hl)⟩
      . rintro i x ys H2 hx ⟨S,rfl⟩
        obtain⟨y,hy,rfl⟩:=yl hx;simp only[zg,zf,↓reduceIte];exact⟨y,rfl,gG y (Zi hy),fun H3 S3=>⟨S.trans S3,pp i⟩⟩
      . rintro ys H2 ⟨S,rfl⟩ p hp
        have S2:Same H (upd H2 p (.lst ((allT (zs.map V.str).length).map V.bl))):=S.trans (Same.upd (Same.refl _) hp);refine⟨_,.of zc,?_⟩;rw[mj];generalize upd H2 p (.lst ((allT (zs.map V.str).length).map V.bl))=H3 at *;refine⟨zs,S2.seq (.of hl),by omega,_,.inl (S2.seq (.of hl)),rfl,?_⟩;rw[zc8 gD _ (Zm _),Zt,Za,decide_eq_true rfl];exact q _ S2
theorem nh (B:Bt mg) (pz:FnAt P w K mg base "is_grid_row" 3 ["thing", "width"] qRow) (D:ze K mg "are_worths" sk ["thing", "height", "width"]):FnAt P w K mg base "are_worths" 4 ["thing", "height", "width"] zdk:=by
  refine FnAt.of D aj (fun vs H Q E h => ?_) (fun f cdv A outer s H vs Q E hr h => ?_)
  . obtain⟨g,gs,rows,ht,n,rfl,_⟩:=h
    rfl
  . obtain⟨g,gs,rows,ht,n,rfl,hg,l1,l2,b1,b2,hrow,hG,q⟩:=h
    refine⟨_,(@zj _ _ _ _ _ (@yu _ _ _ _ _ _ _ _ (PW.pt (@oq _ _ _ _ _ _ _ (@x6 _ _ _ _ (wm (zr xf rfl B.isinstance y4 (za (pv 0) (za (sf rfl B.list i6) (@zb _)))))) (@se _ _ _ _ (@yp _ _ _ _ _ _ _ _ dq (zr zw rfl B.len yd (za (pv 0) (@zb _))) (pv 1) (yk _))))) (@zi _ _ _ (@zm _ _ _ _ (@vv _ _ _ _))) (@yg _)) (@zi _ _ _ (@zm _ _ _ _ (zr (ud rfl) rfl B.all o8 (za (yh ["row"] ["thing", "height", "width"] rfl (@yb _ _ _ _ (pv 0)) (fun _=>(zn (i:=0) (show(["row", "thing", "height", "width"]:List Str).Nodup by decide +kernel) rfl (Or.inl rfl))) (fun _=>(@z8 _)) (fun _=>(zh pz (hr.mono (by decide)) rfl (za (pv 0) (za (pv 3) (@zb _))))) rfl (by decide +kernel) rfl rfl) (@zb _)))))),?_⟩;rw[show start ["thing", "height", "width"] [V.ref g,V.int ht,V.int n]=[some (V.ref g),some (V.int ht),some (V.int n)] from rfl];simp only[zg,zf,↓reduceIte];refine⟨_,.lst hg,true,ix,iteF ⟨_,.inl (.of hg),rfl,?_⟩⟩;rw[Za,l1];refine zfd rfl ⟨⟨_,.of hg⟩,fun d => ?_⟩;refine yf (xs:=gs.map V.ref) (PvAT H) ⟨Same.refl _,rfl⟩ ?_ ?_ ?_
    . rintro i ys H2 hi ⟨S,rfl⟩
      rw[Za]at hi;exact⟨by rw[ni];exact Zd hi (Zd (show gs.length<=8 by omega) (by decide)),S.seq (.of hg)⟩
    . rintro i x ys H2 hx ⟨S,rfl⟩
      obtain⟨r,hr',rfl⟩:=yl hx;have hi:i<rows.length:=by have:=(Zc.mp hr').1;omega
      have e2:rows[i]? = some rows[i]:=by simp[hi]
      have hm:=hG rows[i] (Zl hi);simp only[zg,zf,↓reduceIte];exact⟨r,rows[i],n,rfl,S _ _ (hrow i r rows[i] hr' e2),hm.1,b2,hm.2,fun H3 S3=>⟨S.trans S3,pp i⟩⟩
    . rintro ys H2 ⟨S,rfl⟩ l hl
      refine⟨_,.of zc,?_⟩;rw[mj];exact q _ (S.trans (Same.upd (Same.refl _) hl))
theorem ju (B:Bt mg) (pj:FnAt P w K mg base "is_name" 1 ["thing"] zer) (vn:FnAt P w K mg base "are_names" 2 ["thing", "most"] zan) (nh:FnAt P w K mg base "are_worths" 4 ["thing", "height", "width"] zdk) (D:ze K mg "is_hand" lx ["thing", "width"]):FnAt P w K mg base "is_hand" 5 ["thing", "width"] qHand:=by
  refine FnAt.of D ze7 (fun vs H Q E h => ?_) (fun f cdv A outer s H vs Q E hr h => ?_)
  . obtain⟨x,d,n,rfl,_⟩:=h
    rfl
  . obtain⟨x,d,n,rfl,hx,g,n8,q⟩:=h
    refine⟨_,(@zj _ _ _ _ _ (@yu _ _ _ _ _ _ _ _ (PW.pt (@oq _ _ _ _ _ _ _ (@x6 _ _ _ _ (wm (zr xf rfl B.isinstance y4 (za (pv 0) (za (sf rfl B.tuple wf) (@zb _)))))) (@se _ _ _ _ (@yp _ _ _ _ _ _ _ _ dq (zr zw rfl B.len yd (za (pv 0) (@zb _))) (@zd _ _ _ _) (yk _))))) (@zi _ _ _ (@zm _ _ _ _ (@vv _ _ _ _))) (@yg _)) (@zi _ _ _ (@zm _ _ _ _ (@pc _ _ _ _ _ _ _ (zh pj (hr.mono (by decide)) rfl (za (@z0 _ _ _ _ _ _ _ ym (pv 0) (@zd _ _ _ _) (fun _ _=>rfl)) (@zb _))) (@pc _ _ _ _ _ _ _ (zh vn (hr.mono (by decide)) rfl (za (@z0 _ _ _ _ _ _ _ ym (pv 0) (@zd _ _ _ _) (fun _ _=>rfl)) (za (nu rfl B.k_MOST_WORDS) (@zb _)))) (@q8 _ _ _ _ _ (zh nh (hr.mono (by decide)) rfl (za (@z0 _ _ _ _ _ _ _ ym (pv 0) (@zd _ _ _ _) (fun _ _=>rfl)) (za (zr zw rfl B.len yd (za (@z0 _ _ _ _ _ _ _ ym (pv 0) (@zd _ _ _ _) (fun _ _=>rfl)) (@zb _))) (za (pv 1) (@zb _))))))))))),?_⟩;rw[show start ["thing", "width"] [V.ref x.t,V.int n]=[some (V.ref x.t),some (V.int n)] from rfl];simp only[zg,zf,↓reduceIte];refine⟨_,.tup hx.tup,true,zja,iteF ⟨_,.inr (.of hx.tup),rfl,zfd rfl ?_⟩⟩;refine⟨_,.of hx.tup,_,z7 (j:=0) rfl,d.name,rfl,g.name,fun H1 S1 => ?_⟩;have hx1:=hx.mono S1;refine⟨_,rfl,iteT ⟨_,.of hx1.tup,_,z7 (j:=1) rfl,x.w,d.words,8,rfl,hx1.words,g.words.1,g.words.2,Zm _,g.wordsG,g.wordsD,fun H2 S2 => ?_⟩⟩;have hx2:=hx1.mono S2;refine⟨_,rfl,iteT ⟨_,.of hx2.tup,_,z7 (j:=2) rfl,_,.of hx2.tup,_,z7 (j:=1) rfl,x.w,rfl,_,.inl (.of hx2.words),?_⟩⟩;rw[Za];have hw:=g.words.2;have hr2:=g.rows;exact⟨x.g,x.gs,d.worths,d.words.length,n,rfl,hx2.grid,by rw[hx2.len];exact hr2,hr2,hw,n8,hx2.row,g.cols,fun H3 S3=>q H3 (S1.trans (S2.trans S3))⟩
theorem uc (D:ze K mg "name_of" lc ["hand"]):FnAt P w K mg base "name_of" 1 ["hand"] (rn fun _ d=>.str d.name):=by
  refine FnAt.of D zd0 (fun vs H Q E h => ?_) (fun f cdv A outer s H vs Q E hr h => ?_)
  . obtain⟨x,d,rfl,_⟩:=h
    rfl
  . obtain⟨x,d,rfl,hx,q⟩:=h
    refine⟨_,(@zi _ _ _ (@zm _ _ _ _ (@z0 _ _ _ _ _ _ _ ym (pv 0) (@zd _ _ _ _) (fun _ _=>rfl)))),?_⟩;rw[show start ["hand"] [V.ref x.t]=[some (V.ref x.t)] from rfl];simp only[zg,zf,↓reduceIte];exact⟨_,.of hx.tup,_,z7 (j:=0) rfl,q⟩
theorem yi (D:ze K mg "words_of_hand" wx ["hand"]):FnAt P w K mg base "words_of_hand" 1 ["hand"] (rn fun x _=>.ref x.w):=by
  refine FnAt.of D mi (fun vs H Q E h => ?_) (fun f cdv A outer s H vs Q E hr h => ?_)
  . obtain⟨x,d,rfl,_⟩:=h
    rfl
  . obtain⟨x,d,rfl,hx,q⟩:=h
    refine⟨_,(@zi _ _ _ (@zm _ _ _ _ (@z0 _ _ _ _ _ _ _ ym (pv 0) (@zd _ _ _ _) (fun _ _=>rfl)))),?_⟩;rw[show start ["hand"] [V.ref x.t]=[some (V.ref x.t)] from rfl];simp only[zg,zf,↓reduceIte];exact⟨_,.of hx.tup,_,z7 (j:=1) rfl,q⟩
theorem yz (D:ze K mg "worths_of_hand" wg ["hand"]):FnAt P w K mg base "worths_of_hand" 1 ["hand"] (rn fun x _=>.ref x.g):=by
  refine FnAt.of D p9 (fun vs H Q E h => ?_) (fun f cdv A outer s H vs Q E hr h => ?_)
  . obtain⟨x,d,rfl,_⟩:=h
    rfl
  . obtain⟨x,d,rfl,hx,q⟩:=h
    refine⟨_,(@zi _ _ _ (@zm _ _ _ _ (@z0 _ _ _ _ _ _ _ ym (pv 0) (@zd _ _ _ _) (fun _ _=>rfl)))),?_⟩;rw[show start ["hand"] [V.ref x.t]=[some (V.ref x.t)] from rfl];simp only[zg,zf,↓reduceIte];exact⟨_,.of hx.tup,_,z7 (j:=2) rfl,q⟩
theorem rb (B:Bt mg) (yi:FnAt P w K mg base "words_of_hand" 1 ["hand"] (rn fun x _=>.ref x.w)) (D:ze K mg "count_of_rows" vt ["hands"]):FnAt P w K mg base "count_of_rows" 2 ["hands"] zfq:=by
  refine FnAt.of D sc_count_of_rows (fun vs H Q E h => ?_) (fun f cdv A outer s H vs Q E hr h => ?_)
  . obtain⟨b,xs,ds,rfl,_⟩:=h
    rfl
  . obtain⟨b,xs,ds,rfl,hh,h8,h4,q⟩:=h
    refine⟨_,(@zj _ _ _ _ _ (zy (i:=1) sc_count_of_rows.nd rfl (Or.inl rfl) (@zd _ _ _ _)) (@zj _ _ _ _ _ (xc PassesOwn.never rfl (@yb _ _ _ _ (pv 0)) (zn (i:=2) sc_count_of_rows.nd rfl (Or.inl rfl)) (@zi _ _ _ (zy (i:=1) sc_count_of_rows.nd rfl (Or.inl rfl) (@zk _ _ _ _ _ _ _ _ wu (pv 1) (zr zw rfl B.len yd (za (zh yi (hr.mono (by decide)) rfl (za (pv 2) (@zb _))) (@zb _))))))) (@zi _ _ _ (@zm _ _ _ _ (pv 1))))),?_⟩;rw[show start ["hands", "count", "hand"] [V.ref b]=[some (V.ref b),none,none] from rfl];simp only[zg,zf,↓reduceIte];refine⟨⟨_,.of hh.at'⟩,?_⟩;refine w9 (xs:=xs.map fun x=>V.ref x.t) (PvCt H b ds) ⟨rfl,_,rfl⟩ ?_ ?_ ?_
    . rintro i σ H4 hi ⟨rfl,v,rfl⟩
      exact .of hh.at'
    . rintro i x σ H4 hx ⟨rfl,v,rfl⟩
      obtain⟨y,hy,rfl⟩:=yl hx;have hi:i<ds.length:=by have:=(Zc.mp hy).1;have:=hh.len;omega
      have e2:ds[i]? = some ds[i]:=by simp[hi]
      have hd:=hh.hand i y ds[i] hy e2;have hw:=h8 ds[i] (Zl hi);simp only[zg,zf,↓reduceIte];refine⟨y,ds[i],rfl,hd,?_⟩;simp only[zg,zf,↓reduceIte];refine⟨_,.inl (.of hd.words),?_⟩;rw[Za];refine⟨.inr ⟨by omega,by omega⟩,rfl,some (V.ref y.t),?_⟩;rw[Zq,e2,Zn,List.prod_append];simp only[Option.toList,ZM,YY,List.prod_cons,List.prod_nil,Nat.mul_one,Xf]
    . rintro σ H4 ⟨rfl,v,rfl⟩
      simp only[zg,zf,↓reduceIte];rw[Za,hh.len,Zt];exact q
def zae:Sp:=fun vs H Q _=>∃(b:Addr) (xs:List HX) (ds:List HD),vs=[.ref b]/\HandsL H b xs ds/\ds.length<=4/\∀l,H l=none->Q (.ref l) (upd H l (.lst ((ds.map HD.name).map V.str)))
theorem jj (uc:FnAt P w K mg base "name_of" 1 ["hand"] (rn fun _ d=>.str d.name)) (D:ze K mg "names_of" oy ["hands"]):FnAt P w K mg base "names_of" 2 ["hands"] zae:=by
  refine FnAt.of D zcj (fun vs H Q E h => ?_) (fun f cdv A outer s H vs Q E hr h => ?_)
  . obtain⟨b,xs,ds,rfl,_⟩:=h
    rfl
  . obtain⟨b,xs,ds,rfl,hh3,g4,q⟩:=h
    refine⟨_,(@zi _ _ _ (@zm _ _ _ _ (yh ["hand"] ["hands"] rfl (@yb _ _ _ _ (pv 0)) (fun _=>(zn (i:=0) (show(["hand", "hands"]:List Str).Nodup by decide +kernel) rfl (Or.inl rfl))) (fun _=>(@z8 _)) (fun _=>(zh uc (hr.mono (by decide)) rfl (za (pv 0) (@zb _)))) rfl (by decide +kernel) rfl rfl))),?_⟩;rw[show start ["hands"] [V.ref b]=[some (V.ref b)] from rfl];simp only[zg,zf,↓reduceIte];refine⟨⟨_,.of hh3.at'⟩,fun d2 => ?_⟩;refine yf (xs:=xs.map fun x=>V.ref x.t) (PvNm H ds) ⟨rfl,rfl⟩ ?_ ?_ ?_
    . rintro i ys H4 hi ⟨rfl,rfl⟩
      refine⟨?_,.of hh3.at'⟩;rw[Za,Za,Zj];exact Zd (ZB _ _) (Zd g4 (by decide))
    . rintro i x ys H4 hx ⟨rfl,rfl⟩
      obtain⟨y,hy,rfl⟩:=yl hx;have hi:i<ds.length:=by have:=(Zc.mp hy).1;have:=hh3.len;omega
      have e2:ds[i]? = some ds[i]:=by simp[hi]
      simp only[zg,zf,↓reduceIte];refine⟨y,ds[i],rfl,hh3.hand i y ds[i] hy e2,rfl,?_⟩;rw[Zq,e2,Zn,Zn];rfl
    . rintro ys H4 ⟨rfl,rfl⟩ l hl
      rw[Za,hh3.len,Zt];exact q l hl
theorem vh (B:Bt mg) (vn:FnAt P w K mg base "are_names" 2 ["thing", "most"] zan) (ju:FnAt P w K mg base "is_hand" 5 ["thing", "width"] qHand) (jj:FnAt P w K mg base "names_of" 2 ["hands"] zae) (rb:FnAt P w K mg base "count_of_rows" 2 ["hands"] zfq)
    (D:ze K mg "makes_house" u5 ["outcomes", "hands"]):FnAt P w K mg base "makes_house" 6 ["outcomes", "hands"] za6:=by
  refine FnAt.of D cg (fun vs H Q E h => ?_) (fun f cdv A outer s H vs Q E hr h => ?_)
  . obtain⟨o,b,outs,xs,ds,rfl,_⟩:=h
    rfl
  . obtain⟨o,b,outs,xs,ds,rfl,ho,hh,g,q⟩:=h
    refine⟨_,(@zj _ _ _ _ _ (@yu _ _ _ _ _ _ _ _ (PW.pt (@oq _ _ _ _ _ _ _ (@x6 _ _ _ _ (wm (zh vn (hr.mono (by decide)) rfl (za (pv 0) (za (nu rfl B.k_MOST_OUTCOMES) (@zb _)))))) (@se _ _ _ _ (@x6 _ _ _ _ (wm (zr xf rfl B.isinstance y4 (za (pv 1) (za (sf rfl B.list i6) (@zb _))))))))) (@zi _ _ _ (@zm _ _ _ _ (@vv _ _ _ _))) (@yg _)) (@zj _ _ _ _ _ (@yu _ _ _ _ _ _ _ _ (@x6 _ _ _ _ (wm (zr (ud rfl) rfl B.all o8 (za (yh ["hand"] ["outcomes", "hands"] rfl (@yb _ _ _ _ (pv 1)) (fun _=>(zn (i:=0) (show(["hand", "outcomes", "hands"]:List Str).Nodup by decide +kernel) rfl (Or.inl rfl))) (fun _=>(@z8 _)) (fun _=>(zh ju (hr.mono (by decide)) rfl (za (pv 0) (za (zr zw rfl B.len yd (za (pv 1) (@zb _))) (@zb _))))) rfl (by decide +kernel) rfl rfl) (@zb _))))) (@zi _ _ _ (@zm _ _ _ _ (@vv _ _ _ _))) (@yg _)) (@zi _ _ _ (@zm _ _ _ _ (@pc _ _ _ _ _ _ _ (zh vn (hr.mono (by decide)) rfl (za (zh jj (hr.mono (by decide)) rfl (za (pv 1) (@zb _))) (za (nu rfl B.k_MOST_HANDS) (@zb _)))) (@q8 _ _ _ _ _ (@tw _ _ _ _ _ _ _ _ dy (zh rb (hr.mono (by decide)) rfl (za (pv 1) (@zb _))) (nu rfl B.k_MOST_ROWS) (yk _)))))))),?_⟩;rw[show start ["outcomes", "hands"] [V.ref o,V.ref b]=[some (V.ref o),some (V.ref b)] from rfl];simp only[zg,zf,↓reduceIte];have g1:=g.outs1;have g2:=g.hands;refine⟨o,outs,8,rfl,ho,g1.1,g1.2,Zm _,g.outsG,g.outsD,fun H1 S1 => ?_⟩;simp only[zg,zf,↓reduceIte];have hh1:=hh.mono S1;have ho1:=S1 _ _ ho;refine iteF ⟨_,.lst hh1.at',true,ix,iteF ⟨⟨_,.of hh1.at'⟩,fun d => ?_⟩⟩;refine yf (xs:=xs.map fun x=>V.ref x.t) (PvAT H1) ⟨Same.refl _,rfl⟩ ?_ ?_ ?_
    . rintro i ys H2 hi ⟨S,rfl⟩
      rw[Za,hh.len]at hi;exact⟨by rw[ni];exact Zd hi (Zd g2.2 (by decide)),S.seq (.of hh1.at')⟩
    . rintro i x ys H2 hx ⟨S,rfl⟩
      obtain⟨y,hy,rfl⟩:=yl hx;have hi:i<ds.length:=by have:=(Zc.mp hy).1;have:=hh.len;omega
      have e2:ds[i]? = some ds[i]:=by simp[hi]
      simp only[zg,zf,↓reduceIte];refine⟨_,.inl (S.seq (.of ho1)),?_⟩;rw[Za];exact⟨y,ds[i],outs.length,rfl,(hh1.hand i y ds[i] hy e2).mono S,g.hand (Zl hi),g1.2,fun H3 S3=>⟨S.trans S3,pp i⟩⟩
    . rintro ys H2 ⟨S,rfl⟩ p hp
      have S2:Same H1 (upd H2 p (.lst ((allT (xs.map fun x=>V.ref x.t).length).map V.bl))):=S.trans (Same.upd (Same.refl _) hp);refine⟨_,.of zc,?_⟩;rw[mj];generalize upd H2 p (.lst ((allT (xs.map fun x=>V.ref x.t).length).map V.bl))=H3 at *;have hh3:=hh1.mono S2;refine iteF ⟨b,xs,ds,rfl,hh3,g2.2,fun l hl => ?_⟩;have S5:Same H3 (upd H3 l (.lst ((ds.map HD.name).map V.str))):=Same.upd (Same.refl _) hl;refine⟨l,ds.map HD.name,4,rfl,zc,by rw[Za];exact g2.1,by rw[Za];exact g2.2,by decide,fun z hz => ?_,g.handsD,fun H6 S6 => ?_⟩
      . obtain⟨d,hd,rfl⟩:=Zp.mp hz
        exact g.handsG d hd
      . generalize upd H3 l (.lst ((ds.map HD.name).map V.str))=H5 at *
        have S36:=S5.trans S6;have few:=g.few;refine⟨_,rfl,iteT ⟨b,xs,ds,rfl,hh3.mono S36,fun d hd=>(g.words1 d hd).2,g2.2,_,rfl,?_⟩⟩;rw[decide_eq_true (by omega)];exact q _ (S1.trans (S2.trans S36))
theorem qg (B:Bt mg) (uc:FnAt P w K mg base "name_of" 1 ["hand"] (rn fun _ d=>.str d.name)) (yi:FnAt P w K mg base "words_of_hand" 1 ["hand"] (rn fun x _=>.ref x.w)) (yz:FnAt P w K mg base "worths_of_hand" 1 ["hand"] (rn fun x _=>.ref x.g))
    (D:ze K mg "kept_hand" uv ["hand"]):FnAt P w K mg base "kept_hand" 2 ["hand"] (qKept K):=by
  refine FnAt.of D sc_kept_hand (fun vs H Q E h => ?_) (fun f cdv A outer s H vs Q E hr h => ?_)
  . obtain⟨x,d,rfl,_⟩:=h
    rfl
  . obtain⟨x,d,rfl,hx,h8,q⟩:=h
    refine⟨_,(@zj _ _ _ _ _ (zy (i:=1) sc_kept_hand.nd rfl (Or.inl rfl) (xk x9 rfl B.tuple wf (za (yh ["row"] ["hand", "worths"] rfl (@yb _ _ _ _ (zh yz (hr.mono (by decide)) rfl (za (pv 0) (@zb _)))) (fun _=>(zn (i:=0) (show(["row", "hand", "worths"]:List Str).Nodup by decide +kernel) rfl (Or.inl rfl))) (fun _=>(@z8 _)) (fun _=>(xk x9 rfl B.tuple wf (za (pv 0) (@zb _)))) rfl (by decide +kernel) rfl rfl) (@zb _)))) (@zi _ _ _ (@zm _ _ _ _ (@y6 _ _ _ _ _ (za (zh uc (hr.mono (by decide)) rfl (za (pv 0) (@zb _))) (za (xk x9 rfl B.tuple wf (za (zh yi (hr.mono (by decide)) rfl (za (pv 0) (@zb _))) (@zb _))) (za (pv 1) (@zb _)))))))),?_⟩;rw[show start ["hand", "worths"] [V.ref x.t]=[some (V.ref x.t),none] from rfl];simp only[zg,zf,↓reduceIte];refine⟨x,d,rfl,hx,?_⟩;simp only[zg,zf,↓reduceIte];refine⟨⟨_,.of hx.grid⟩,fun dd => ?_⟩;refine yf (xs:=x.gs.map V.ref) (PvE K d.worths H) ⟨Same.refl _,rfl,TrsAt.nil⟩ ?_ ?_ ?_
    . rintro i ys H2 hi ⟨S,ly,_⟩
      rw[Za,hx.len]at hi;exact⟨by rw[ly];exact Zd hi (Zd h8 (by decide)),S.seq (.of hx.grid)⟩
    . rintro i y ys H2 hy ⟨S,ly,ty⟩
      obtain⟨r,hr',rfl⟩:=yl hy;have hi:i<d.worths.length:=by have:=(Zc.mp hr').1;have:=hx.len;omega
      have e2:d.worths[i]? = some d.worths[i]:=by simp[hi]
      simp only[zg,zf,↓reduceIte];refine⟨_,S.seq (.of (hx.row i r _ hr' e2)),fun l hl => ?_⟩;have S3:Same H2 (upd H2 l (.tup ((d.worths[i]).map V.int))):=Same.upd (Same.refl _) hl;refine⟨S.trans S3,by simp[ly],?_⟩;rw[Zq,e2,Zn];exact TrsAt.append (TrsAt.mono S3 ty) (TrsAt.cons (TrAt.tp (.of zc) (cf _)) TrsAt.nil)
    . rintro ys H2 ⟨S,ly,ty⟩ l hl
      rw[Za,hx.len,Zt]at ty;have S3:Same H2 (upd H2 l (.lst ys)):=Same.upd (Same.refl _) hl;refine⟨_,.of zc,fun l1 hl1 => ?_⟩;generalize upd H2 l (.lst ys)=H3 at *;have S4:Same H3 (upd H3 l1 (.tup ys)):=Same.upd (Same.refl _) hl1;have h4:upd H3 l1 (.tup ys) l1=some (.tup ys):=zc;generalize upd H3 l1 (.tup ys)=H4 at *;have S24:=S.trans (S3.trans S4);refine⟨x,d,rfl,hx.mono S24,x,d,rfl,hx.mono S24,x.w,rfl,_,.of (hx.mono S24).words,fun l2 hl2=>⟨by decide,fun p hp => ?_⟩⟩;have S5:Same H4 (upd H4 l2 (.tup (d.words.map V.str))):=Same.upd (Same.refl _) hl2;have h5:upd H4 l2 (.tup (d.words.map V.str)) l2=some (.tup (d.words.map V.str)):=zc;generalize upd H4 l2 (.tup (d.words.map V.str))=H5 at *;have S6:Same H5 (upd H5 p (.tup [V.str d.name,V.ref l2,V.ref l1])):=Same.upd (Same.refl _) hp;refine q _ p (S24.trans (S5.trans S6)) (TrAt.tp (.of zc) (TrsAt.cons (TrAt.lf rfl) (TrsAt.cons (TrAt.tp (.of (S6 _ _ h5)) (i4 _)) (TrsAt.cons (TrAt.tp (.of ((S5.trans S6) _ _ h4)) (TrsAt.mono (S3.trans (S4.trans (S5.trans S6))) ty)) TrsAt.nil))))
theorem e5 (B:Bt mg) (C:Ct K mg a) (vh:FnAt P w K mg base "makes_house" 6 ["outcomes", "hands"] za6) (qg:FnAt P w K mg base "kept_hand" 2 ["hand"] (qKept K)) (D:ze K mg "house_of" rh ["outcomes", "hands"]):FnAtX P w K mg base "house_of" 7 ["outcomes", "hands"] (zjx K):=by
  refine FnAtX.of D gg (fun vs H Q E h => ?_) (fun f cdv A outer s H vs Q E hr h => ?_)
  . obtain⟨o,b,outs,xs,ds,rfl,_⟩:=h
    rfl
  . obtain⟨o,b,outs,xs,ds,rfl,ho,hh,g,q⟩:=h
    refine⟨_,(@zj _ _ _ _ _ (@yu _ _ _ _ _ _ _ _ (@x6 _ _ _ _ (wm (zh vh (hr.mono (by decide)) rfl (za (pv 0) (za (pv 1) (@zb _)))))) (@zi _ _ _ (ky rfl C.q_NoHouse.toErr rfl C.m_NoHouse (qo rfl) (za (@u0 _ _ _ _) (@zb _)))) (@yg _)) (@zi _ _ _ (PS.nox (@zm _ _ _ _ (@y6 _ _ _ _ _ (za (xk x9 rfl B.tuple wf (za (pv 0) (@zb _))) (za (xk x9 rfl B.tuple wf (za (yh ["hand"] ["outcomes", "hands"] rfl (@yb _ _ _ _ (pv 1)) (fun _=>(zn (i:=0) (show(["hand", "outcomes", "hands"]:List Str).Nodup by decide +kernel) rfl (Or.inl rfl))) (fun _=>(@z8 _)) (fun _=>(zh qg (hr.mono (by decide)) rfl (za (pv 0) (@zb _)))) rfl (by decide +kernel) rfl rfl) (@zb _))) (@zb _)))))))),?_⟩;rw[show start ["outcomes", "hands"] [V.ref o,V.ref b]=[some (V.ref o),some (V.ref b)] from rfl];simp only[zg,zf,↓reduceIte];have g2:=g.hands;refine⟨o,b,outs,xs,ds,rfl,ho,hh,g,fun H1 S1 => ?_⟩;simp only[zg,zf,↓reduceIte];have hh1:=hh.mono S1;have ho1:=S1 _ _ ho;refine iteF ⟨_,.of ho1,fun l hl => ?_⟩;have S2:Same H1 (upd H1 l (.tup (outs.map V.str))):=Same.upd (Same.refl _) hl;have h2:upd H1 l (.tup (outs.map V.str)) l=some (.tup (outs.map V.str)):=zc;generalize upd H1 l (.tup (outs.map V.str))=H2 at *;have hh2:=hh1.mono S2;refine⟨⟨_,.of hh2.at'⟩,fun d => ?_⟩;refine yf (xs:=xs.map fun x=>V.ref x.t) (PvD K ds H2) ⟨Same.refl _,rfl,TrsAt.nil⟩ ?_ ?_ ?_
    . rintro i ys H3 hi ⟨S,ly,_⟩
      rw[Za,hh.len]at hi;exact⟨by rw[ly];exact Zd hi (Zd g2.2 (by decide)),S.seq (.of hh2.at')⟩
    . rintro i y ys H3 hy ⟨S,ly,ty⟩
      obtain⟨x,hx,rfl⟩:=yl hy;have hi:i<ds.length:=by have:=(Zc.mp hx).1;have:=hh.len;omega
      have e2:ds[i]? = some ds[i]:=by simp[hi]
      have hm:=Zl hi;have r8:(ds[i]).worths.length<=8:=by rw[g.rows _ hm];exact(g.words1 _ hm).2
      simp only[zg,zf,↓reduceIte];refine⟨x,ds[i],rfl,(hh2.hand i x ds[i] hx e2).mono S,r8,fun H4 p S4 tp => ?_⟩;refine⟨S.trans S4,by simp[ly],?_⟩;rw[Zq,e2,Zn];exact TrsAt.append (TrsAt.mono S4 ty) (TrsAt.cons tp TrsAt.nil)
    . rintro ys H3 ⟨S,ly,ty⟩ l1 hl1
      rw[Za,hh.len,Zt]at ty;have S4:Same H3 (upd H3 l1 (.lst ys)):=Same.upd (Same.refl _) hl1;refine⟨_,.of zc,fun l2 hl2=>⟨by decide,fun p hp => ?_⟩⟩;generalize upd H3 l1 (.lst ys)=H4 at *;have S5:Same H4 (upd H4 l2 (.tup ys)):=Same.upd (Same.refl _) hl2;have h5:upd H4 l2 (.tup ys) l2=some (.tup ys):=zc;generalize upd H4 l2 (.tup ys)=H5 at *;have S6:Same H5 (upd H5 p (.tup [V.ref l,V.ref l2])):=Same.upd (Same.refl _) hp;have S36:=S4.trans (S5.trans S6);exact q _ p _ (S1.trans (S2.trans (S.trans S36))) zc (TrAt.tp (.of zc) (TrsAt.cons (TrAt.tp (.of ((S.trans S36) _ _ h2)) (i4 _)) (TrsAt.cons (TrAt.tp (.of (S6 _ _ h5)) (TrsAt.mono S36 ty)) TrsAt.nil)))
end
section
variable{α:Type}
def wc(r:List α)(ws:List α):List (List α):=ws.map fun w=>r++[w]
def xu(rs:List (List α))(ws:List α):List (List α):=(rs.map fun r=>wc r ws).flatten
def zx(wss:List (List α)):List (List α):=wss.foldl xu [[]]
theorem zev(wss:List (List α))(ws:List α):zx (wss++[ws])=xu (zx wss) ws:=by simp[zx]
theorem f8(r:List α)(rs:List (List α))(ws:List α):xu (r::rs) ws=wc r ws++xu rs ws:=by simp[xu]
theorem dt(rs:List (List α))(r:List α)(ws:List α):xu (rs++[r]) ws=xu rs ws++wc r ws:=by simp[xu]
theorem uo(r:List α)(ws:List α):(wc r ws).length=ws.length:=by simp[wc]
theorem qz(ws:List α):∀rs:List (List α),(xu rs ws).length=rs.length*ws.length
  | []=>by simp[xu]
  | r::rs=>by rw[f8,Zo,uo,qz ws rs,ZN,Nat.succ_mul,Nat.add_comm]
theorem va{wss:List (List α)}{j:Nat}{ws:List α}(h:wss[j]? = some ws):zx (wss.take (j+1))=xu (zx (wss.take j)) ws:=by
  rw[Zq,h];exact zev _ _
theorem zgm(wss:List (List α)):(zx wss).length=(wss.map List.length).prod:=by
  have:∀n,n<=wss.length->(zx (wss.take n)).length=((wss.take n).map List.length).prod:=by
    intro n
    induction n with
    | zero=>intro _;rfl
    | succ n ih =>
      intro h;have e:wss[n]? = some wss[n]:=Zb (by omega);rw[va e,qz,ih (by omega),Zq,e,Zn,List.prod_append];simp
  have:=this wss.length (Zm _)
  rwa [Zt]at this
theorem j0{rs:List (List α)}{ws:List α}{row:List α}(h:row∈xu rs ws):∃r w,r∈rs/\w∈ws/\row=r++[w]:=by
  simp only[xu,wc,YM,Zp]at h;obtain⟨l,⟨r,hr,rfl⟩,h⟩:=h;obtain⟨w,hw,rfl⟩:=Zp.mp h;exact⟨r,w,hr,hw,rfl⟩
theorem gd(wss:List (List α)):∀n,n<=wss.length->∀row∈zx (wss.take n),row.length=n:=by
  intro n
  induction n with
  | zero=>intro _ row h;simp[zx]at h;simp[h]
  | succ n ih =>
    intro h row hr;have e:wss[n]? = some wss[n]:=Zb (by omega);rw[va e]at hr;obtain⟨r,w,h1,_,rfl⟩:=j0 hr;simp[ih (by omega) r h1]
end
structure TupsAt(H:Hp)(as:List Addr)(rs:List (List Str)):Prop where
  len:as.length=rs.length
  at':∀(i:Nat) (a:Addr) (r:List Str),as[i]? = some a->rs[i]? = some r->H a=some (.tup (r.map V.str))
theorem TupsAt.nil{H:Hp}:TupsAt H [] []:=⟨rfl,fun i a r e=>by simp at e⟩
theorem TupsAt.mono{H H':Hp}{as:List Addr}{rs:List (List Str)}(S:Same H H')(h:TupsAt H as rs):TupsAt H' as rs:=⟨h.len,fun i a r e1 e2=>S _ _ (h.at' i a r e1 e2)⟩
theorem TupsAt.append{H:Hp}{as bs:List Addr}{rs qs:List (List Str)}(h1:TupsAt H as rs)(h2:TupsAt H bs qs):TupsAt H (as++bs) (rs++qs):=by
  refine⟨by simp[h1.len,h2.len],fun i a r e1 e2 => ?_⟩
  by_cases hi:i<as.length
  . rw[Zg hi]at e1
    rw[Zg (by rw[<-h1.len];exact hi)]at e2;exact h1.at' i a r e1 e2
  . rw[Zf (ZD.mp hi)]at e1
    rw[Zf (by rw[<-h1.len];exact ZD.mp hi)]at e2;rw[h1.len]at e1;exact h2.at' _ a r e1 e2
theorem TupsAt.one{H:Hp}{a:Addr}{r:List Str}(h:H a=some (.tup (r.map V.str))):TupsAt H [a] [r]:=⟨rfl,fun i b q e1 e2=>by
  cases i with
  | zero =>
    simp at e1 e2;subst e1 e2;exact h
  | succ i=>simp at e1⟩
theorem TupsAt.past{H:Hp}{p:Addr}{xs ys:List V}{as:List Addr}{rs:List (List Str)}(hp:H p=some (.lst xs))(h:TupsAt H as rs):TupsAt (upd H p (.lst ys)) as rs :=
  ⟨h.len,fun i a r e1 e2=>by
    have:=h.at' i a r e1 e2;rw[zp (fun e=>by rw[e,hp]at this;cases this)]
    exact this⟩
structure RwsAt(H:Hp)(l:Addr)(as:List Addr)(rs:List (List Str)):Prop where
  lst:H l=some (.lst (as.map V.ref))
  tups:TupsAt H as rs
theorem RwsAt.mono{H H':Hp}{l:Addr}{as:List Addr}{rs:List (List Str)}(S:Same H H')(h:RwsAt H l as rs):RwsAt H' l as rs:=⟨S _ _ h.lst,h.tups.mono S⟩
structure KHand(K:Fg)(H:Hp)(t:Addr)(d:HD)(w g:Addr)(gs:List Addr):Prop where
  tup:SqT K H t [.str d.name,.ref w,.ref g]
  words:SqT K H w (d.words.map V.str)
  grid:SqT K H g (gs.map V.ref)
  len:gs.length=d.worths.length
  row:∀(i:Nat) (r:Addr) (ns:List Int),gs[i]? = some r->d.worths[i]? = some ns->SqT K H r (ns.map V.int)
def KHands(K:Fg)(H:Hp)(hs:List Addr)(ds:List HD):Prop:=hs.length=ds.length/\∀(i:Nat) (t:Addr) (d:HD),hs[i]? = some t->ds[i]? = some d->∃w g gs,KHand K H t d w g gs
structure KHouse(K:Fg)(H:Hp)(p o h:Addr)(hs:List Addr)(outs:List Str)(ds:List HD):Prop where
  tup:SqT K H p [.ref o,.ref h]
  outs:SqT K H o (outs.map V.str)
  hands:SqT K H h (hs.map V.ref)
  hand:KHands K H hs ds
theorem KHand.mono{K:Fg}{H H':Hp}{t:Addr}{d:HD}{w g:Addr}{gs:List Addr}(S:Same H H')(h:KHand K H t d w g gs):KHand K H' t d w g gs :=
  ⟨S.seqT h.tup,S.seqT h.words,S.seqT h.grid,h.len,fun i r ns e1 e2=>S.seqT (h.row i r ns e1 e2)⟩
theorem KHands.mono{K:Fg}{H H':Hp}{hs:List Addr}{ds:List HD}(S:Same H H')(h:KHands K H hs ds):KHands K H' hs ds :=
  ⟨h.1,fun i t d e1 e2=>by
    obtain⟨w,g,gs,q⟩:=h.2 i t d e1 e2
    exact⟨w,g,gs,q.mono S⟩⟩
theorem KHouse.mono{K:Fg}{H H':Hp}{p o h:Addr}{hs:List Addr}{outs:List Str}{ds:List HD}(S:Same H H')(q:KHouse K H p o h hs outs ds):KHouse K H' p o h hs outs ds :=
  ⟨S.seqT q.tup,S.seqT q.outs,S.seqT q.hands,q.hand.mono S⟩
def xm(K:Fg)(j:Nat):Sp:=fun vs H Q _=>∃(t:Addr) (us:List V) (v:V),vs=[.ref t]/\SqT K H t us/\us[j]? = some v/\Q v H
def zf8(K:Fg):Sp:=fun vs H Q _=>∃(l wd:Addr) (as:List Addr) (rs:List (List Str)) (ws:List Str),vs=[.ref l,.ref wd]/\RwsAt H l as rs/\SqT K H wd (ws.map V.str)/\rs.length<=4096/\ws.length<=8/\(∀r∈rs,r.length<=8) /\
  ∀H' l' as',Same H H'->H l'=none->RwsAt H' l' as' (xu rs ws)->Q (.ref l') H'
def PvEach(l wd p:Addr)(rs:List (List Str))(ws:List Str)(H:Hp)(i:Nat)(σ:L2.St)(H':Hp):Prop:=∃(as':List Addr) (v:Option V),H' p=some (.lst (as'.map V.ref))/\TupsAt H' as' (xu (rs.take i) ws)/\Same H H'/\σ=[some (.ref l),some (.ref wd),some (.ref p),v]
def zfr(r ws:List Str)(H:Hp)(i:Nat)(ys:List V)(H':Hp):Prop:=∃as':List Addr,ys=as'.map V.ref/\TupsAt H' as' (wc r (ws.take i))/\Same H H'
def za9(K:Fg):Sp:=fun vs H Q _=>∃(h:Addr) (hs:List Addr) (ds:List HD),vs=[.ref h]/\SqT K H h (hs.map V.ref)/\KHands K H hs ds/\ds.length<=4/\(∀d∈ds,d.words.length<=8) /\
  ∀H' l as,Same H H'->H l=none->RwsAt H' l as (zx (ds.map HD.words))->Q (.ref l) H'
def PvOver(h:Addr)(ds:List HD)(H:Hp)(i:Nat)(σ:L2.St)(H':Hp):Prop:=∃(l:Addr) (as:List Addr) (v:Option V),H l=none/\RwsAt H' l as (zx ((ds.map HD.words).take i))/\Same H H'/\σ=[some (.ref h),some (.ref l),v]
def zai(K:Fg):Sp:=fun vs H Q _=>∃(p o h:Addr) (hs:List Addr) (outs:List Str) (ds:List HD),vs=[.ref p]/\KHouse K H p o h hs outs ds/\ds.length<=4/\(∀d∈ds,d.words.length<=8) /\
  ∀H' l as,Same H H'->H l=none->RwsAt H' l as (zx (ds.map HD.words))->Q (.ref l) H'
def jz(K:Fg):Sp:=fun vs H Q _=>∃(p:Addr) (xs:List V) (k:Nat),vs=[.ref p,.int k]/\SqT K H p xs/\k<xs.length/\xs.length<=64/\∀H' p',Same H H'->H' p'=some (.tup (xs.eraseIdx k))->Q (.ref p') H'
def jh(K:Fg):Sp:=fun vs H Q _=>∃(p o h:Addr) (hs:List Addr) (outs:List Str) (ds:List HD) (k:Nat),vs=[.ref p,.int k]/\KHouse K H p o h hs outs ds/\k<ds.length/\ds.length<=4/\(∀d∈ds,d.words.length<=8) /\
  ∀H' l as,Same H H'->H l=none->RwsAt H' l as (zx ((ds.eraseIdx k).map HD.words))->Q (.ref l) H'
theorem ua{wss:List (List Str)}(h4:wss.length<=4)(h8:∀ws∈wss,ws.length<=8)(n:Nat)(hn:n<=wss.length):(zx (wss.take n)).length<=4096:=by
  have:∀m,m<=wss.length->(zx (wss.take m)).length<=8^m:=by
    intro m
    induction m with
    | zero=>intro _;exact Zm _
    | succ m ih =>
      intro h;have e:wss[m]? = some wss[m]:=Zb (by omega);rw[va e,qz,Nat.pow_succ];exact YV (ih (by omega)) (h8 _ (Zl (by omega)))
  exact Zd (this n hn) (Nat.pow_le_pow_right (by decide) (show n<=4 by omega))
section
variable{P:Program}{w:World}{K:Fg}{mg:Str->Option Value}{base:Heap}
theorem ze5 (D:ze K mg "hands_of" om ["house"]):FnAt P w K mg base "hands_of" 1 ["house"] (xm K 1):=by
  refine FnAt.of D zb6 (fun vs H Q E h => ?_) (fun f cdv A outer s H vs Q E hr h => ?_)
  . obtain⟨t,us,v,rfl,_⟩:=h
    rfl
  . obtain⟨t,us,v,rfl,ht,e,q⟩:=h
    refine⟨_,(@zi _ _ _ (@zm _ _ _ _ (@z0 _ _ _ _ _ _ _ ym (pv 0) (@zd _ _ _ _) (fun _ _=>rfl)))),?_⟩;rw[show start ["house"] [V.ref t]=[some (V.ref t)] from rfl];simp only[zg,zf,↓reduceIte];exact⟨_,ht,_,z7 (j:=1) e,q⟩
theorem dg (D:ze K mg "words_of_hand" wx ["hand"]):FnAt P w K mg base "words_of_hand" 1 ["hand"] (xm K 1):=by
  refine FnAt.of D mi (fun vs H Q E h => ?_) (fun f cdv A outer s H vs Q E hr h => ?_)
  . obtain⟨t,us,v,rfl,_⟩:=h
    rfl
  . obtain⟨t,us,v,rfl,ht,e,q⟩:=h
    refine⟨_,(@zi _ _ _ (@zm _ _ _ _ (@z0 _ _ _ _ _ _ _ ym (pv 0) (@zd _ _ _ _) (fun _ _=>rfl)))),?_⟩;rw[show start ["hand"] [V.ref t]=[some (V.ref t)] from rfl];simp only[zg,zf,↓reduceIte];exact⟨_,ht,_,z7 (j:=1) e,q⟩
theorem ka (B:Bt mg) (D:ze K mg "with_each" qt ["rows", "words"]):FnAt P w K mg base "with_each" 1 ["rows", "words"] (zf8 K):=by
  refine FnAt.of D sc_with_each (fun vs H Q E h => ?_) (fun f cdv A outer s H vs Q E hr h => ?_)
  . obtain⟨l,wd,as,rs,ws,rfl,_⟩:=h
    rfl
  . obtain⟨l,wd,as,rs,ws,rfl,hR,hW,b1,b2,b3,q⟩:=h
    refine⟨_,(@zj _ _ _ _ _ (zy (i:=2) sc_with_each.nd rfl (Or.inl rfl) (@xp _ _ _ _ (@zb _))) (@zj _ _ _ _ _ (xc PassesOwn.never rfl (@yb _ _ _ _ (pv 0)) (zn (i:=3) sc_with_each.nd rfl (Or.inr rfl)) (@zi _ _ _ (r6 (jb PySem.F.plainAttrs_list PySem.F.slot_list_extend PySem.F.type_list_extend ba (pv 2) (za (yh ["word"] ["rows", "words", "longer", "row"] rfl (@dc _ _ _ _ (pv 1)) (fun _=>(zn (i:=0) (show(["word", "rows", "words", "longer", "row"]:List Str).Nodup by decide +kernel) rfl (Or.inl rfl))) (fun _=>(@z8 _)) (fun _=>(@zk _ _ _ _ _ _ _ _ uj (pv 4) (@y6 _ _ _ _ _ (za (pv 0) (@zb _))))) rfl (by decide +kernel) rfl rfl) (@zb _)))))) (@zi _ _ _ (@zm _ _ _ _ (pv 2))))),?_⟩;rw[show start ["rows", "words", "longer", "row"] [V.ref l,V.ref wd]=[some (V.ref l),some (V.ref wd),none,none] from rfl];simp only[zg,zf,↓reduceIte];refine⟨by decide,fun p hp => ?_⟩;have S1:Same H (upd H p (.lst [])):=Same.upd (Same.refl _) hp;refine⟨⟨_,.of (S1 _ _ hR.lst)⟩,?_⟩;refine w9 (xs:=as.map V.ref) (PvEach l wd p rs ws H) ⟨[],_,zc,TupsAt.nil,S1,rfl⟩ ?_ ?_ ?_
    . rintro i σ H' hi ⟨as',v,h1,h2,S,rfl⟩
      exact .of (S _ _ hR.lst)
    . rintro i x σ H' hx ⟨as',v,h1,h2,S,rfl⟩
      obtain⟨a,ha,rfl⟩:=yl hx;have hi:i<rs.length:=by have:=(Zc.mp ha).1;have:=hR.tups.len;omega
      have er:rs[i]? = some rs[i]:=Zb hi;have hrow:=hR.tups.at' i a _ ha er;have hr8:=b3 _ (Zl hi);simp only[zg,zf,↓reduceIte];refine⟨.inl ⟨rfl,_,.of h1⟩,⟨_,S.seqT hW⟩,fun d => ?_⟩;refine g0 (xs:=ws.map V.str) (zfr rs[i] ws H') ⟨[],rfl,TupsAt.nil,Same.refl _⟩ ?_ ?_ ?_
      . rintro j ys H2 hj ⟨bs,rfl,t2,S2⟩
        refine⟨?_,S2.seqT (S.seqT hW)⟩;rw[Za,t2.len,uo,Zj];exact Zd (ZB _ _) (Zd b2 (by decide))
      . rintro j y ys H2 hy ⟨bs,rfl,t2,S2⟩
        obtain⟨z,hz,rfl⟩:=yl hy;simp only[zg,zf,↓reduceIte];refine⟨by decide,fun c hc => ?_⟩;have S3:Same H2 (upd H2 c (.tup [V.str z])):=Same.upd (Same.refl _) hc;refine⟨_,(S.trans (S2.trans S3)) _ _ hrow,_,zc,?_,fun H4 e S4 he => ?_⟩
        . rw[Za]
          exact Zd (show _<=9 by simp;omega) (by decide)
        . refine⟨bs++[e],by simp,?_,S2.trans (S3.trans S4)⟩
          rw[Zq,hz]
          show TupsAt H4 (bs++[e]) (wc _ (ws.take j++[z]))
          rw[wc,Zn];exact(t2.mono (S3.trans S4)).append (TupsAt.one (by rw[he];simp))
      . rintro ys H2 ⟨bs,rfl,t2,S2⟩ l2 hl2
        rw[Za,Zt]at t2;have S3:Same H2 (upd H2 l2 (.lst (bs.map V.ref))):=Same.upd (Same.refl _) hl2;have h3:upd H2 l2 (.lst (bs.map V.ref)) l2=some (.lst (bs.map V.ref)):=zc;generalize upd H2 l2 (.lst (bs.map V.ref))=H3 at *;have hp3:=(S2.trans S3) _ _ h1;refine⟨_,hp3,_,h3,?_,?_⟩
        . rw[Za,Za,h2.len,t2.len,uo,qz,Zj]
          have:min i rs.length*ws.length<=4096*8:=YV (by omega) b2;exact Zd (show _<=4096*8+8 by omega) (by decide)
        . refine⟨as'++bs,_,by rw[zc,Zn],?_,Same.upd (S.trans (S2.trans S3)) hp,rfl⟩
          rw[Zq,er]
          show TupsAt _ _ (xu (rs.take i++[rs[i]]) ws)
          rw[dt];exact((h2.mono (S2.trans S3)).append (t2.mono S3)).past hp3
    . rintro σ H' ⟨as',v,h1,h2,S,rfl⟩
      simp only[zg,zf,↓reduceIte];rw[Za,hR.tups.len,Zt]at h2;exact q H' p as' S hp ⟨h1,h2⟩
theorem uz (B:Bt mg) (ka:FnAt P w K mg base "with_each" 1 ["rows", "words"] (zf8 K)) (yi:FnAt P w K mg base "words_of_hand" 1 ["hand"] (xm K 1)) (D:ze K mg "rows_over" qj ["hands"]):FnAt P w K mg base "rows_over" 2 ["hands"] (za9 K):=by
  refine FnAt.of D sc_rows_over (fun vs H Q E h => ?_) (fun f cdv A outer s H vs Q E hr h => ?_)
  . obtain⟨b,hs,ds,rfl,_⟩:=h
    rfl
  . obtain⟨b,hs,ds,rfl,hH,hK,h4,h8,q⟩:=h
    refine⟨_,(@zj _ _ _ _ _ (@zy _ _ 1 _ _ _ _ sc_rows_over.nd rfl (Or.inl rfl) (@xp _ _ _ _ (@za _ _ _ _ _ (@y6 _ _ _ _ _ (@zb _)) (@zb _) (yo nofun))) rfl (Or.inl rfl)) (@zj _ _ _ _ _ (xc PassesOwn.never rfl (@dc _ _ _ _ (pv 0)) (zn (i:=2) sc_rows_over.nd rfl (Or.inl rfl)) (@zi _ _ _ (zy (i:=1) sc_rows_over.nd rfl (Or.inl rfl) (zh ka (hr.mono (by decide)) rfl (za (pv 1) (za (zh yi (hr.mono (by decide)) rfl (za (pv 2) (@zb _))) (@zb _))))))) (@zi _ _ _ (@zm _ _ _ _ (pv 1))))),?_⟩;rw[show start ["hands", "rows", "hand"] [V.ref b]=[some (V.ref b),none,none] from rfl];simp only[zg,zf,↓reduceIte];refine⟨by decide,fun c hc=>⟨by decide,fun p hp => ?_⟩⟩;have S1:Same H (upd H c (.tup [])):=Same.upd (Same.refl _) hc;have h1:upd H c (.tup []) c=some (.tup []):=zc;generalize upd H c (.tup [])=H1 at *;have S2:Same H1 (upd H1 p (.lst [V.ref c])):=Same.upd (Same.refl _) hp;have h2:upd H1 p (.lst [V.ref c]) p=some (.lst [V.ref c]):=zc;generalize upd H1 p (.lst [V.ref c])=H2 at *;have S:=S1.trans S2;refine⟨⟨_,S.seqT hH⟩,?_⟩;refine zkd (xs:=hs.map V.ref) (PvOver b ds H) ⟨p,[c],_,S1.free hp,⟨h2,TupsAt.one (S2 _ _ h1)⟩,S,rfl⟩ ?_ ?_ ?_
    . rintro i σ H' hi ⟨l,as,v,hl,hR,S',rfl⟩
      exact S'.seqT hH
    . rintro i x σ H' hx ⟨l,as,v,hl,hR,S',rfl⟩
      obtain⟨t,ht,rfl⟩:=yl hx;have hi:i<ds.length:=by have:=(Zc.mp ht).1;have:=hK.1;omega
      have ed:ds[i]? = some ds[i]:=Zb hi;obtain⟨wd,g,gs,hd⟩:=(hK.mono S').2 i t _ ht ed;simp only[zg,zf,↓reduceIte];refine⟨t,_,_,rfl,hd.tup,rfl,?_⟩;have ew:(ds.map HD.words)[i]? = some ds[i].words:=by rw[Ze,ed];rfl
      have hb:∀r∈zx ((ds.map HD.words).take i),r.length<=8:=fun r hr=>by
        have:=gd (ds.map HD.words) i (by rw[Za];omega) r hr;omega
      refine⟨l,wd,as,_,ds[i].words,rfl,hR,hd.words,ua (by rw[Za];exact h4) (fun ws hws => ?_) i (by rw[Za];omega),h8 _ (Zl hi),hb,fun H3 l3 as3 S3 hl3 R3 => ?_⟩
      . obtain⟨d,hd,rfl⟩:=Zp.mp hws
        exact h8 d hd
      . simp only[zg,zf,↓reduceIte]
        refine⟨l3,as3,_,S'.free hl3,?_,S'.trans S3,rfl⟩;rw[va ew];exact R3
    . rintro σ H' ⟨l,as,v,hl,hR,S',rfl⟩
      simp only[zg,zf,↓reduceIte];rw[Za,hK.1,ZG (by rw[Za];omega)]at hR;exact q H' l as S' hl hR
theorem j8 (B:Bt mg) (uz:FnAt P w K mg base "rows_over" 2 ["hands"] (za9 K)) (f_hands_of:FnAt P w K mg base "hands_of" 1 ["house"] (xm K 1)) (D:ze K mg "rows_of" mq ["house"]):FnAt P w K mg base "rows_of" 3 ["house"] (zai K):=by
  refine FnAt.of D zel (fun vs H Q E h => ?_) (fun f cdv A outer s H vs Q E hr h => ?_)
  . obtain⟨p,o,a,hs,outs,ds,rfl,_⟩:=h
    rfl
  . obtain⟨p,o,a,hs,outs,ds,rfl,hH,h4,h8,q⟩:=h
    refine⟨_,(@zi _ _ _ (@zm _ _ _ _ (zh uz (hr.mono (by decide)) rfl (za (zh f_hands_of (hr.mono (by decide)) rfl (za (pv 0) (@zb _))) (@zb _))))),?_⟩;rw[show start ["house"] [V.ref p]=[some (V.ref p)] from rfl];simp only[zg,zf,↓reduceIte];exact⟨p,_,_,rfl,hH.tup,rfl,a,hs,ds,rfl,hH.hands,hH.hand,h4,h8,q⟩
theorem q9 (B:Bt mg) (D:ze K mg "without" m4 ["things", "k"]):FnAt P w K mg base "without" 1 ["things", "k"] (jz K):=by
  refine FnAt.of D zd7 (fun vs H Q E h => ?_) (fun f cdv A outer s H vs Q E hr h => ?_)
  . obtain⟨p,xs,k,rfl,_⟩:=h
    rfl
  . obtain⟨p,xs,k,rfl,hp,hk,h64,q⟩:=h
    refine⟨_,(@zi _ _ _ (@zm _ _ _ _ (@zk _ _ _ _ _ _ _ _ uj (@xt _ _ _ _ _ _ _ _ _ _ zbb (pv 0) (@we _) (@xy _ _ _ (pv 1))) (@xt _ _ _ _ _ _ _ _ _ _ zbb (pv 0) (@xy _ _ _ (@zk _ _ _ _ _ _ _ _ yn (pv 1) (@zd _ _ _ _))) (@we _))))),?_⟩;rw[show start ["things", "k"] [V.ref p,V.int k]=[some (V.ref p),some (V.int k)] from rfl];simp only[zg,zf,↓reduceIte];refine⟨_,hp,?_,fun c hc => ?_⟩
    . rw[HT.sIx_nat]
      omega
    . rw[o7 (YQ hk)]
      have S1:Same H (upd H c (.tup (xs.take k))):=Same.upd (Same.refl _) hc;have h1:upd H c (.tup (xs.take k)) c=some (.tup (xs.take k)):=zc;generalize upd H c (.tup (xs.take k))=H1 at *;refine⟨_,S1.seqT hp,?_,fun e he => ?_⟩
      . rw[show(k:Int)+1=((k+1:Nat):Int) by omega,HT.sIx_nat]
        omega
      . rw[show(k:Int)+1=((k+1:Nat):Int) by omega,tq hk]
        have S2:Same H1 (upd H1 e (.tup (xs.drop (k+1)))):=Same.upd (Same.refl _) he;refine⟨_,S2 _ _ h1,_,zc,?_,fun H3 r S3 hr => ?_⟩
        . rw[Zj,ZP]
          exact Zd (show _<=64 by omega) (by decide)
        . refine q H3 r (S1.trans (S2.trans S3)) ?_
          rw[hr,ZR]
theorem ur (B:Bt mg) (uz:FnAt P w K mg base "rows_over" 2 ["hands"] (za9 K)) (f_hands_of:FnAt P w K mg base "hands_of" 1 ["house"] (xm K 1)) (q9:FnAt P w K mg base "without" 1 ["things", "k"] (jz K)) (D:ze K mg "others_of" ql ["house", "k"]):FnAt P w K mg base "others_of" 3 ["house", "k"] (jh K):=by
  refine FnAt.of D za7 (fun vs H Q E h => ?_) (fun f cdv A outer s H vs Q E hr h => ?_)
  . obtain⟨p,o,a,hs,outs,ds,k,rfl,_⟩:=h
    rfl
  . obtain⟨p,o,a,hs,outs,ds,k,rfl,hH,hk,h4,h8,q⟩:=h
    refine⟨_,(@zi _ _ _ (@zm _ _ _ _ (zh uz (hr.mono (by decide)) rfl (za (zh q9 (hr.mono (by decide)) rfl (za (zh f_hands_of (hr.mono (by decide)) rfl (za (pv 0) (@zb _))) (za (pv 1) (@zb _)))) (@zb _))))),?_⟩;rw[show start ["house", "k"] [V.ref p,V.int k]=[some (V.ref p),some (V.int k)] from rfl];simp only[zg,zf,↓reduceIte];have hl:=hH.hand.1;refine⟨p,_,_,rfl,hH.tup,rfl,a,_,k,rfl,hH.hands,by rw[Za];omega,by rw[Za];omega,fun H1 b S1 hb => ?_⟩
    have e:(hs.map V.ref).eraseIdx k=(hs.eraseIdx k).map V.ref:=by
      rw[ZR,ZR,Zn,YX,List.map_drop]
    rw[e]at hb;refine⟨b,hs.eraseIdx k,ds.eraseIdx k,rfl,.of hb,⟨?_,fun i t d e1 e2 => ?_⟩,?_,fun d hd=>h8 d (ZO hd),fun H2 l as S2 hl R2=>q H2 l as (S1.trans S2) (S1.free hl) R2⟩
    . rw[List.length_eraseIdx,List.length_eraseIdx,hl]
    . rw[ZS]at e1 e2
      by_cases hik:i<k
      . rw[if_pos hik]at e1 e2
        exact(hH.hand.mono S1).2 i t d e1 e2
      . rw[if_neg hik]at e1 e2
        exact(hH.hand.mono S1).2 (i+1) t d e1 e2
    . exact Zd (List.length_eraseIdx_le _ _) h4
end
structure HHand(H:Hp)(t:Addr)(d:HD)(w g:Addr)(gs:List Addr):Prop where
  tup:H t=some (.tup [.str d.name,.ref w,.ref g])
  words:H w=some (.tup (d.words.map V.str))
  grid:H g=some (.tup (gs.map V.ref))
  len:gs.length=d.worths.length
  row:∀(i:Nat) (r:Addr) (ns:List Int),gs[i]? = some r->d.worths[i]? = some ns->H r=some (.tup (ns.map V.int))
theorem HHand.mono{H H':Hp}{t:Addr}{d:HD}{w g:Addr}{gs:List Addr}(S:Same H H')(h:HHand H t d w g gs):HHand H' t d w g gs :=
  ⟨S _ _ h.tup,S _ _ h.words,S _ _ h.grid,h.len,fun i r ns e1 e2=>S _ _ (h.row i r ns e1 e2)⟩
theorem HHand.k{K:Fg}{H:Hp}{t:Addr}{d:HD}{w g:Addr}{gs:List Addr}(h:HHand H t d w g gs):KHand K H t d w g gs :=
  ⟨.of h.tup,.of h.words,.of h.grid,h.len,fun i r ns e1 e2=>.of (h.row i r ns e1 e2)⟩
def HHands(H:Hp)(hs:List Addr)(ds:List HD):Prop:=hs.length=ds.length/\∀(i:Nat) (t:Addr) (d:HD),hs[i]? = some t->ds[i]? = some d->∃w g gs,HHand H t d w g gs
theorem HHands.mono{H H':Hp}{hs:List Addr}{ds:List HD}(S:Same H H')(h:HHands H hs ds):HHands H' hs ds :=
  ⟨h.1,fun i t d e1 e2=>by
    obtain⟨w,g,gs,q⟩:=h.2 i t d e1 e2
    exact⟨w,g,gs,q.mono S⟩⟩
theorem HHands.snoc{H:Hp}{hs:List Addr}{ds:List HD}{t:Addr}{d:HD}{w g:Addr}{gs:List Addr}(h:HHands H hs ds)(q:HHand H t d w g gs):HHands H (hs++[t]) (ds++[d]):=by
  refine⟨by simp[h.1],fun i a e e1 e2 => ?_⟩
  by_cases hi:i<hs.length
  . rw[Zg hi]at e1
    rw[Zg (by rw[<-h.1];exact hi)]at e2;exact h.2 i a e e1 e2
  . rw[Zf (ZD.mp hi)]at e1
    rw[Zf (by rw[<-h.1];exact ZD.mp hi)]at e2
    have h0:i-hs.length=0:=by
      have:=(Zc.mp e1).1;simp at this;omega
    rw[h0]at e1;rw[<-h.1,h0]at e2;simp at e1 e2;subst e1 e2;exact⟨w,g,gs,q⟩
structure HHouse(H:Hp)(p o h:Addr)(hs:List Addr)(outs:List Str)(ds:List HD):Prop where
  tup:H p=some (.tup [.ref o,.ref h])
  outs:H o=some (.tup (outs.map V.str))
  hands:H h=some (.tup (hs.map V.ref))
  hand:HHands H hs ds
theorem HHouse.mono{H H':Hp}{p o h:Addr}{hs:List Addr}{outs:List Str}{ds:List HD}(S:Same H H')(q:HHouse H p o h hs outs ds):HHouse H' p o h hs outs ds :=
  ⟨S _ _ q.tup,S _ _ q.outs,S _ _ q.hands,q.hand.mono S⟩
theorem HHouse.k{K:Fg}{H:Hp}{p o h:Addr}{hs:List Addr}{outs:List Str}{ds:List HD}(q:HHouse H p o h hs outs ds):KHouse K H p o h hs outs ds :=
  ⟨.of q.tup,.of q.outs,.of q.hands,q.hand.1,fun i t d e1 e2=>by
    obtain⟨w,g,gs,z⟩:=q.hand.2 i t d e1 e2
    exact⟨w,g,gs,z.k⟩⟩
structure IntTs(H:Hp)(ls:List Addr)(ps:List (List Int)):Prop where
  len:ls.length=ps.length
  at':∀(i:Nat) (l:Addr) (p:List Int),ls[i]? = some l->ps[i]? = some p->H l=some (.tup (p.map V.int))
theorem IntTs.mono{H H':Hp}{ls:List Addr}{ps:List (List Int)}(S:Same H H')(h:IntTs H ls ps):IntTs H' ls ps:=⟨h.len,fun i l p e1 e2=>S _ _ (h.at' i l p e1 e2)⟩
theorem IntTs.snoc{H:Hp}{ls:List Addr}{ps:List (List Int)}{l:Addr}{p:List Int}(h:IntTs H ls ps)(hl:H l=some (.tup (p.map V.int))):IntTs H (ls++[l]) (ps++[p]):=by
  refine⟨by simp[h.len],fun i a q e1 e2 => ?_⟩
  by_cases hi:i<ls.length
  . rw[Zg hi]at e1
    rw[Zg (by rw[<-h.len];exact hi)]at e2;exact h.at' i a q e1 e2
  . rw[Zf (ZD.mp hi)]at e1
    rw[Zf (by rw[<-h.len];exact ZD.mp hi)]at e2
    have h0:i-ls.length=0:=by
      have:=(Zc.mp e1).1;simp at this;omega
    rw[h0]at e1;rw[<-h.len,h0]at e2;simp at e1 e2;subst e1 e2;exact hl
def zhd:Sp:=fun vs H Q _=>∃(x:HX) (d:HD),vs=[.ref x.t]/\HandAt H x d/\d.worths.length<=8/\∀H' t w g gs,Same H H'->HHand H' t d w g gs->Q (.ref t) H'
def zax:Sp:=fun vs H Q _=>∃(o b:Addr) (outs:List Str) (xs:List HX) (ds:List HD),vs=[.ref o,.ref b]/\H o=some (.lst (outs.map V.str))/\HandsL H b xs ds/\GoodHouse outs ds/\∀H' p o' h hs,Same H H'->HHouse H' p o' h hs outs ds->Q (.ref p) H'
def PvEH(rows:List (List Int))(H1:Hp)(i:Nat)(ys:List V)(H':Hp):Prop:=Same H1 H'/\∃gs:List Addr,ys=gs.map V.ref/\IntTs H' gs (rows.take i)
def PvDH(ds:List HD)(H1:Hp)(i:Nat)(ys:List V)(H':Hp):Prop:=Same H1 H'/\∃hs:List Addr,ys=hs.map V.ref/\HHands H' hs (ds.take i)
section
variable{P:Program}{w:World}{K:Fg}{mg:Str->Option Value}{base:Heap}{a:Ad}
theorem zb0 (B:Bt mg) (uc:FnAt P w K mg base "name_of" 1 ["hand"] (rn fun _ d=>.str d.name)) (yi:FnAt P w K mg base "words_of_hand" 1 ["hand"] (rn fun x _=>.ref x.w)) (yz:FnAt P w K mg base "worths_of_hand" 1 ["hand"] (rn fun x _=>.ref x.g))
    (D:ze K mg "kept_hand" uv ["hand"]):FnAt P w K mg base "kept_hand" 2 ["hand"] zhd:=by
  refine FnAt.of D sc_kept_hand (fun vs H Q E h => ?_) (fun f cdv A outer s H vs Q E hr h => ?_)
  . obtain⟨x,d,rfl,_⟩:=h
    rfl
  . obtain⟨x,d,rfl,hx,h8,q⟩:=h
    refine⟨_,(@zj _ _ _ _ _ (zy (i:=1) sc_kept_hand.nd rfl (Or.inl rfl) (xk x9 rfl B.tuple wf (za (yh ["row"] ["hand", "worths"] rfl (@yb _ _ _ _ (zh yz (hr.mono (by decide)) rfl (za (pv 0) (@zb _)))) (fun _=>(zn (i:=0) (show(["row", "hand", "worths"]:List Str).Nodup by decide +kernel) rfl (Or.inl rfl))) (fun _=>(@z8 _)) (fun _=>(xk x9 rfl B.tuple wf (za (pv 0) (@zb _)))) rfl (by decide +kernel) rfl rfl) (@zb _)))) (@zi _ _ _ (@zm _ _ _ _ (@y6 _ _ _ _ _ (za (zh uc (hr.mono (by decide)) rfl (za (pv 0) (@zb _))) (za (xk x9 rfl B.tuple wf (za (zh yi (hr.mono (by decide)) rfl (za (pv 0) (@zb _))) (@zb _))) (za (pv 1) (@zb _)))))))),?_⟩;rw[show start ["hand", "worths"] [V.ref x.t]=[some (V.ref x.t),none] from rfl];simp only[zg,zf,↓reduceIte];refine⟨x,d,rfl,hx,?_⟩;simp only[zg,zf,↓reduceIte];refine⟨⟨_,.of hx.grid⟩,fun dd => ?_⟩;refine yf (xs:=x.gs.map V.ref) (PvEH d.worths H) ⟨Same.refl _,[],rfl,rfl,fun i l p e=>by simp at e⟩ ?_ ?_ ?_
    . rintro i ys H2 hi ⟨S,gs,rfl,ty⟩
      rw[Za,hx.len]at hi;have ly:gs.length=i:=by rw[ty.len,Zj];omega
      exact⟨by rw[Za,ly];exact Zd hi (Zd h8 (by decide)),S.seq (.of hx.grid)⟩
    . rintro i y ys H2 hy ⟨S,gs,rfl,ty⟩
      obtain⟨r,hr',rfl⟩:=yl hy;have hi:i<d.worths.length:=by have:=(Zc.mp hr').1;have:=hx.len;omega
      have e2:d.worths[i]? = some d.worths[i]:=by simp[hi]
      simp only[zg,zf,↓reduceIte];refine⟨_,S.seq (.of (hx.row i r _ hr' e2)),fun l hl => ?_⟩;have S3:Same H2 (upd H2 l (.tup ((d.worths[i]).map V.int))):=Same.upd (Same.refl _) hl;refine⟨S.trans S3,gs++[l],by simp,?_⟩;rw[Zq,e2];exact(ty.mono S3).snoc zc
    . rintro ys H2 ⟨S,gs,rfl,ty⟩ l hl
      rw[Za,hx.len,Zt]at ty;have S3:Same H2 (upd H2 l (.lst (gs.map V.ref))):=Same.upd (Same.refl _) hl;refine⟨_,.of zc,fun l1 hl1 => ?_⟩;generalize upd H2 l (.lst (gs.map V.ref))=H3 at *;have S4:Same H3 (upd H3 l1 (.tup (gs.map V.ref))):=Same.upd (Same.refl _) hl1;have h4:upd H3 l1 (.tup (gs.map V.ref)) l1=some (.tup (gs.map V.ref)):=zc;generalize upd H3 l1 (.tup (gs.map V.ref))=H4 at *;have S24:=S.trans (S3.trans S4);refine⟨x,d,rfl,hx.mono S24,x,d,rfl,hx.mono S24,x.w,rfl,_,.of (hx.mono S24).words,fun l2 hl2=>⟨by decide,fun p hp => ?_⟩⟩;have S5:Same H4 (upd H4 l2 (.tup (d.words.map V.str))):=Same.upd (Same.refl _) hl2;have h5:upd H4 l2 (.tup (d.words.map V.str)) l2=some (.tup (d.words.map V.str)):=zc;generalize upd H4 l2 (.tup (d.words.map V.str))=H5 at *;have S6:Same H5 (upd H5 p (.tup [V.str d.name,V.ref l2,V.ref l1])):=Same.upd (Same.refl _) hp;exact q _ p l2 l1 gs (S24.trans (S5.trans S6)) ⟨zc,S6 _ _ h5,(S5.trans S6) _ _ h4,ty.len,fun i r ns e1 e2=>(S3.trans (S4.trans (S5.trans S6))) _ _ (ty.at' i r ns e1 e2)⟩
theorem zeh (B:Bt mg) (C:Ct K mg a) (vh:FnAt P w K mg base "makes_house" 6 ["outcomes", "hands"] za6) (qg:FnAt P w K mg base "kept_hand" 2 ["hand"] zhd) (D:ze K mg "house_of" rh ["outcomes", "hands"]):FnAtX P w K mg base "house_of" 7 ["outcomes", "hands"] zax:=by
  refine FnAtX.of D gg (fun vs H Q E h => ?_) (fun f cdv A outer s H vs Q E hr h => ?_)
  . obtain⟨o,b,outs,xs,ds,rfl,_⟩:=h
    rfl
  . obtain⟨o,b,outs,xs,ds,rfl,ho,hh,g,q⟩:=h
    refine⟨_,(@zj _ _ _ _ _ (@yu _ _ _ _ _ _ _ _ (@x6 _ _ _ _ (wm (zh vh (hr.mono (by decide)) rfl (za (pv 0) (za (pv 1) (@zb _)))))) (@zi _ _ _ (ky rfl C.q_NoHouse.toErr rfl C.m_NoHouse (qo rfl) (za (@u0 _ _ _ _) (@zb _)))) (@yg _)) (@zi _ _ _ (PS.nox (@zm _ _ _ _ (@y6 _ _ _ _ _ (za (xk x9 rfl B.tuple wf (za (pv 0) (@zb _))) (za (xk x9 rfl B.tuple wf (za (yh ["hand"] ["outcomes", "hands"] rfl (@yb _ _ _ _ (pv 1)) (fun _=>(zn (i:=0) (show(["hand", "outcomes", "hands"]:List Str).Nodup by decide +kernel) rfl (Or.inl rfl))) (fun _=>(@z8 _)) (fun _=>(zh qg (hr.mono (by decide)) rfl (za (pv 0) (@zb _)))) rfl (by decide +kernel) rfl rfl) (@zb _))) (@zb _)))))))),?_⟩;rw[show start ["outcomes", "hands"] [V.ref o,V.ref b]=[some (V.ref o),some (V.ref b)] from rfl];simp only[zg,zf,↓reduceIte];have g2:=g.hands;refine⟨o,b,outs,xs,ds,rfl,ho,hh,g,fun H1 S1 => ?_⟩;simp only[zg,zf,↓reduceIte];have hh1:=hh.mono S1;have ho1:=S1 _ _ ho;refine iteF ⟨_,.of ho1,fun l hl => ?_⟩;have S2:Same H1 (upd H1 l (.tup (outs.map V.str))):=Same.upd (Same.refl _) hl;have h2:upd H1 l (.tup (outs.map V.str)) l=some (.tup (outs.map V.str)):=zc;generalize upd H1 l (.tup (outs.map V.str))=H2 at *;have hh2:=hh1.mono S2;refine⟨⟨_,.of hh2.at'⟩,fun d => ?_⟩;refine yf (xs:=xs.map fun x=>V.ref x.t) (PvDH ds H2) ⟨Same.refl _,[],rfl,rfl,fun i t d e=>by simp at e⟩ ?_ ?_ ?_
    . rintro i ys H3 hi ⟨S,hs,rfl,ty⟩
      rw[Za,hh.len]at hi;have ly:hs.length=i:=by rw[ty.1,Zj];omega
      exact⟨by rw[Za,ly];exact Zd hi (Zd g2.2 (by decide)),S.seq (.of hh2.at')⟩
    . rintro i y ys H3 hy ⟨S,hs,rfl,ty⟩
      obtain⟨x,hx,rfl⟩:=yl hy;have hi:i<ds.length:=by have:=(Zc.mp hx).1;have:=hh.len;omega
      have e2:ds[i]? = some ds[i]:=by simp[hi]
      have hm:=Zl hi;have r8:(ds[i]).worths.length<=8:=by rw[g.rows _ hm];exact(g.words1 _ hm).2
      simp only[zg,zf,↓reduceIte];refine⟨x,ds[i],rfl,(hh2.hand i x ds[i] hx e2).mono S,r8,fun H4 p wd g' gs S4 tp => ?_⟩;refine⟨S.trans S4,hs++[p],by simp,?_⟩;rw[Zq,e2];exact(ty.mono S4).snoc tp
    . rintro ys H3 ⟨S,hs,rfl,ty⟩ l1 hl1
      rw[Za,hh.len,Zt]at ty;have S4:Same H3 (upd H3 l1 (.lst (hs.map V.ref))):=Same.upd (Same.refl _) hl1;refine⟨_,.of zc,fun l2 hl2=>⟨by decide,fun p hp => ?_⟩⟩;generalize upd H3 l1 (.lst (hs.map V.ref))=H4 at *;have S5:Same H4 (upd H4 l2 (.tup (hs.map V.ref))):=Same.upd (Same.refl _) hl2;have h5:upd H4 l2 (.tup (hs.map V.ref)) l2=some (.tup (hs.map V.ref)):=zc;generalize upd H4 l2 (.tup (hs.map V.ref))=H5 at *;have S6:Same H5 (upd H5 p (.tup [V.ref l,V.ref l2])):=Same.upd (Same.refl _) hp;have S36:=S4.trans (S5.trans S6);exact q _ p l l2 hs (S1.trans (S2.trans (S.trans S36))) ⟨zc,(S.trans S36) _ _ h2,S6 _ _ h5,ty.mono S36⟩
end
section
variable{α:Type}
def au(r:List α)(wss:List (List α)):Prop:=r.length=wss.length/\∀(j:Nat) (ws:List α),wss[j]? = some ws->∃w,r[j]? = some w/\w∈ws
theorem zhx{rs:List (List α)}{ws:List α}{r:List α}{w:α}(h1:r∈rs)(h2:w∈ws):r++[w]∈xu rs ws:=by
  simp only[xu,wc,YM,Zp];exact⟨_,⟨r,h1,rfl⟩,Zp.mpr ⟨w,h2,rfl⟩⟩
theorem zfn(wss:List (List α)):∀n,n<=wss.length->∀r,r∈zx (wss.take n)↔au r (wss.take n):=by
  intro n
  induction n with
  | zero =>
    intro _ r;simp only[List.take_zero,zx,List.foldl_nil,ZC]
    constructor
    . rintro rfl;exact⟨rfl,fun j ws e=>by simp at e⟩
    . intro h;exact Ym.mp h.1
  | succ n ih =>
    intro hn r;have e:wss[n]? = some wss[n]:=Zb (by omega);have et:wss.take (n+1)=wss.take n++[wss[n]]:=by rw[Zq,e];rfl
    have ln:(wss.take n).length=n:=by rw[Zj];omega
    rw[va e]
    constructor
    . intro h
      obtain⟨q,w,h1,h2,rfl⟩:=j0 h;obtain⟨p1,p2⟩:=(ih (by omega) q).mp h1;rw[ln]at p1;refine⟨by rw[et,Zo,Zo,p1,ln];rfl,fun j ws ej => ?_⟩;rw[et]at ej
      by_cases hj:j<n
      . rw[Zg (by omega)]at ej
        obtain⟨w',a1,a2⟩:=p2 j ws ej;exact⟨w',by rw[Zg (by omega)];exact a1,a2⟩
      . rw[Zf (by omega),ln]at ej
        have hj0:j-n=0:=by
          have:=(Zc.mp ej).1;simp at this;omega
        rw[hj0]at ej;simp at ej;subst ej;exact⟨w,by rw[Zf (by omega),p1,hj0];rfl,h2⟩
    . rintro⟨p1,p2⟩
      rw[et]at p1 p2;have lr:r.length=n+1:=by rw[p1,Zo,ln];rfl
      obtain⟨w,a1,a2⟩:=p2 n wss[n] (by rw[Zf (by omega),ln];simp)
      have er:r=r.take n++[w]:=by
        have:r.take (n+1)=r:=ZG (by omega);rw[Zq,a1]at this;exact this.symm
      rw[er];refine zhx ((ih (by omega) _).mpr ⟨by rw[Zj,ln];omega,fun j ws ej => ?_⟩) a2;have hj:j<n:=by have:=(Zc.mp ej).1;omega
      obtain⟨w',b1,b2⟩:=p2 j ws (by rw[Zg (by omega)];exact ej);exact⟨w',by rw[List.getElem?_take,if_pos hj];exact b1,b2⟩
theorem rowsP_iff{wss:List (List α)}{r:List α}:r∈zx wss↔au r wss:=by
  have:=zfn wss wss.length (Zm _) r
  rwa [Zt]at this
theorem zb1{rs:List (List α)}{ws:List α}(h1:rs.Nodup)(h2:ws.Nodup):(xu rs ws).Nodup:=by
  induction rs with
  | nil=>exact Yq
  | cons r rs ih =>
    rw[f8];obtain⟨n1,n2⟩:=ZQ.mp h1;refine Yh.mpr ⟨?_,ih n2,fun x hx y hy e => ?_⟩
    . rw[wc]
      refine YG.mpr (List.Pairwise.imp (fun {a b} hab e=>hab ?_) h2)
      simpa using e
    . obtain⟨w,_,rfl⟩:=Zp.mp hx
      obtain⟨q,w',hq,_,e2⟩:=j0 hy;rw[e2]at e;have:=(List.append_inj' e rfl).1;exact n1 (this▸hq)
theorem qy{wss:List (List α)}(h:∀ws∈wss,ws.Nodup):(zx wss).Nodup:=by
  have:∀n,n<=wss.length->(zx (wss.take n)).Nodup:=by
    intro n
    induction n with
    | zero=>intro _;simp[zx]
    | succ n ih =>
      intro hn;have e:wss[n]? = some wss[n]:=Zb (by omega);rw[va e];exact zb1 (ih (by omega)) (h _ (Zl _))
  have:=this wss.length (Zm _)
  rwa [Zt]at this
def insP(r:List α)(k:Nat)(w:α):List α:=r.take k++w::r.drop k
theorem ziu{r:List α}{k:Nat}(w:α)(h:k<=r.length):(insP r k w).length=r.length+1:=by simp[insP];omega
theorem zdd{r:List α}{k:Nat}(w:α)(h:k<=r.length):(insP r k w)[k]? = some w:=by
  rw[insP,Zf (by rw[Zj];omega),Zj,YS h,Nat.sub_self];rfl
theorem zhn{r:List α}{k:Nat}(w:α)(h:k<=r.length):(insP r k w).take k=r.take k:=by
  rw[insP,List.take_append_of_le_length (by rw[Zj];omega),List.take_take,Nat.min_self]
theorem zf6{r:List α}{k:Nat}(w:α)(h:k<=r.length):(insP r k w).drop (k+1)=r.drop k:=by
  rw[insP,List.drop_append,List.drop_of_length_le (by rw[Zj];omega),Zj,YS h,show k+1-k=1 by omega];rfl
theorem zfb{r:List α}{k:Nat}(w:α)(h:k<=r.length):(insP r k w).eraseIdx k=r:=by
  rw[ZR,zhn w h,zf6 w h,List.take_append_drop]
end
def wj(d:HD)(z:Str):List Int:=d.worths.getD (d.words.idxOf z) []
theorem gz:∀{zs:List Str} {m:Nat} {z:Str},zs[m]? = some z->zs.idxOf z<=m
  | [],m,z,h=>by simp at h
  | y::zs,0,z,h=>by
    simp at h;subst h;simp
  | y::zs,m+1,z,h=>by
    rw[List.idxOf_cons]
    cases y==z with
    | true=>exact ZE _
    | false=>exact Xa (gz (by simpa using h))
theorem zde(y z:Str):eqV (V.str y) (V.str z)=decide (y=z):=rfl
theorem ig{zs:List Str}{z:Str}(h:z∈zs):FirstAt (zs.map V.str) (V.str z) (zs.idxOf z):=by
  have hl:=Zz.mpr h;refine⟨rfl,?_,⟨V.str z,?_,?_⟩,fun m y hm e => ?_⟩
  . rw[ZT]
    intro x hx;obtain⟨y,_,rfl⟩:=Zp.mp hx;rfl
  . rw[Ze,Zb hl,List.getElem_idxOf]
    rfl
  . rw[zde]
    exact decide_eq_true rfl
  . rw[Ze]at e
    have hml:m<zs.length:=by omega
    rw[Zb hml]at e;cases e;rw[zde,decide_eq_false];intro ez;have:=Zz.mpr h
    have hle:zs.idxOf z<=m:=by
      exact gz (by rw[Zb hml,ez])
    omega
def RowOf(ds:List HD)(r:List Str):Prop:=r.length=ds.length/\∀(i:Nat) (d:HD) (z:Str),ds[i]? = some d->r[i]? = some z->z∈d.words
def f9(K:Fg):Sp:=fun vs H Q _=>∃(t:Addr) (d:HD) (w g:Addr) (gs:List Addr) (z:Str),vs=[.ref t,.str z]/\HHand H t d w g gs/\z∈d.words/\d.worths.length=d.words.length/\∀r,H r=some (.tup ((wj d z).map V.int))->Q (.ref r) H
structure IntsAt(H:Hp)(ls:List Addr)(ps:List (List Int)):Prop where
  len:ls.length=ps.length
  at':∀(i:Nat) (l:Addr) (p:List Int),ls[i]? = some l->ps[i]? = some p->H l=some (.lst (p.map V.int))
theorem IntsAt.mono{H H':Hp}{ls:List Addr}{ps:List (List Int)}(S:Same H H')(h:IntsAt H ls ps):IntsAt H' ls ps:=⟨h.len,fun i l p e1 e2=>S _ _ (h.at' i l p e1 e2)⟩
theorem IntsAt.snoc{H:Hp}{ls:List Addr}{ps:List (List Int)}{l:Addr}{p:List Int}(h:IntsAt H ls ps)(hl:H l=some (.lst (p.map V.int))):IntsAt H (ls++[l]) (ps++[p]):=by
  refine⟨by simp[h.len],fun i a q e1 e2 => ?_⟩
  by_cases hi:i<ls.length
  . rw[Zg hi]at e1
    rw[Zg (by rw[<-h.len];exact hi)]at e2;exact h.at' i a q e1 e2
  . rw[Zf (ZD.mp hi)]at e1
    rw[Zf (by rw[<-h.len];exact ZD.mp hi)]at e2
    have h0:i-ls.length=0:=by
      have:=(Zc.mp e1).1;simp at this;omega
    rw[h0]at e1;rw[<-h.len,h0]at e2;simp at e1 e2;subst e1 e2;exact hl
section
variable{P:Program}{w:World}{K:Fg}{mg:Str->Option Value}{base:Heap}{a:Ad}
theorem af (D:ze K mg "outcomes_of" u8 ["house"]):FnAt P w K mg base "outcomes_of" 1 ["house"] (xm K 0):=by
  refine FnAt.of D cb (fun vs H Q E h => ?_) (fun f cdv A outer s H vs Q E hr h => ?_)
  . obtain⟨t,us,v,rfl,_⟩:=h
    rfl
  . obtain⟨t,us,v,rfl,ht,e,q⟩:=h
    refine⟨_,(@zi _ _ _ (@zm _ _ _ _ (@z0 _ _ _ _ _ _ _ ym (pv 0) (@zd _ _ _ _) (fun _ _=>rfl)))),?_⟩;rw[show start ["house"] [V.ref t]=[some (V.ref t)] from rfl];simp only[zg,zf,↓reduceIte];exact⟨_,ht,_,z7 (j:=0) e,q⟩
theorem gx (D:ze K mg "worths_of_hand" wg ["hand"]):FnAt P w K mg base "worths_of_hand" 1 ["hand"] (xm K 2):=by
  refine FnAt.of D p9 (fun vs H Q E h => ?_) (fun f cdv A outer s H vs Q E hr h => ?_)
  . obtain⟨t,us,v,rfl,_⟩:=h
    rfl
  . obtain⟨t,us,v,rfl,ht,e,q⟩:=h
    refine⟨_,(@zi _ _ _ (@zm _ _ _ _ (@z0 _ _ _ _ _ _ _ ym (pv 0) (@zd _ _ _ _) (fun _ _=>rfl)))),?_⟩;rw[show start ["hand"] [V.ref t]=[some (V.ref t)] from rfl];simp only[zg,zf,↓reduceIte];exact⟨_,ht,_,z7 (j:=2) e,q⟩
theorem kj (yi:FnAt P w K mg base "words_of_hand" 1 ["hand"] (xm K 1)) (yz:FnAt P w K mg base "worths_of_hand" 1 ["hand"] (xm K 2)) (D:ze K mg "worths_by" qi ["hand", "word"]):FnAt P w K mg base "worths_by" 2 ["hand", "word"] (f9 K):=by
  refine FnAt.of D zbe (fun vs H Q E h => ?_) (fun f cdv A outer s H vs Q E hr h => ?_)
  . obtain⟨t,d,wd,g,gs,z,rfl,_⟩:=h
    rfl
  . obtain⟨t,d,wd,g,gs,z,rfl,hK,hz,hl,q⟩:=h
    refine⟨_,(@zi _ _ _ (@zm _ _ _ _ (@z0 _ _ _ _ _ _ _ ym (zh yz (hr.mono (by decide)) rfl (za (pv 0) (@zb _))) (zgs PySem.F.plainAttrs_tuple PySem.F.slot_tuple_index PySem.F.type_tuple_index bb (zh yi (hr.mono (by decide)) rfl (za (pv 0) (@zb _))) (za (pv 1) (@zb _))) (fun _ _=>rfl)))),?_⟩;rw[show start ["hand", "word"] [V.ref t,V.str z]=[some (V.ref t),some (V.str z)] from rfl];simp only[zg,zf,↓reduceIte];have hx:=Zz.mpr hz;have hr:d.words.idxOf z<d.worths.length:=by rw[hl];exact hx
    obtain⟨r,er⟩:∃r,gs[d.words.idxOf z]? = some r:=⟨gs[d.words.idxOf z]'(by rw[hK.len];exact hr),by simp⟩;have hrow:=hK.row _ r _ er (Zb hr);refine⟨t,_,_,rfl,.of hK.tup,rfl,t,_,_,rfl,.of hK.tup,rfl,?_⟩;refine⟨⟨wd,rfl,_,.of hK.words⟩,wd,rfl,_,.of hK.words,_,ig hz,g,rfl,_,.of hK.grid,_,z7 (v:=V.ref r) (by rw[Ze,er];rfl),q r ?_⟩;rw[wj,Zk,Zb hr];exact hrow
end
structure MenuOk(outs:List Str)(mk:List (Key×V)):Prop where
  all:∀kv∈mk,∃(o:Str) (p:Int),o∈outs/\kv=(Sum.inr o,V.int p)
  nd:(mk.map (·.1)).Nodup
  few:mk.length<=64
def xz(mk:List (Key×V))(o:Str):Option Int:=match valV mk (Sum.inr o) with
  | some (.int p)=>some p
  | _=>none
theorem MenuOk.val{outs:List Str}{mk:List (Key×V)}(M:MenuOk outs mk)(o:Str):valV mk (Sum.inr o)=(xz mk o).map V.int:=by
  unfold xz
  cases e:valV mk (Sum.inr o) with
  | none=>rfl
  | some v =>
    have:∃kv∈mk,kv.1=Sum.inr o/\kv.2=v:=by
      unfold valV at e;obtain⟨kv,h1,h2⟩:=YI.mp e;exact⟨kv,List.mem_of_find?_eq_some h1,by simpa using List.find?_some h1,h2⟩
    obtain⟨kv,hm,h1,h2⟩:=this;obtain⟨o',p,_,rfl⟩:=M.all kv hm;rw[<-h2];rfl
def offers(mk:List (Key×V))(outs:List Str)(ws:List Int):Nat->List (Int×Str×Nat)
  | 0=>[]
  | i+1=>offers mk outs ws i++(match outs[i]?,ws[i]? with
    | some o,some n=>(match xz mk o with
      | some p=>[(n-p,o,i)]
      | none=>[])
    | _,_=>[])
theorem kz{mk:List (Key×V)}{outs:List Str}{ws:List Int}:∀(n:Nat) (x:Int×Str×Nat),x∈offers mk outs ws n->x.2.2<n/\outs[x.2.2]? = some x.2.1/\∃w p,ws[x.2.2]? = some w/\xz mk x.2.1=some p/\x.1=w-p
  | 0,x,h=>by cases h
  | n+1,x,h=>by
    rw[offers]at h
    rcases ZH.mp h with h | h
    . obtain⟨h1,h2⟩:=kz n x h
      exact⟨by omega,h2⟩
    . cases e1:outs[n]? with
      | none=>rw[e1]at h;cases h
      | some o =>
        cases e2:ws[n]? with
        | none=>rw[e1,e2]at h;cases h
        | some w =>
          rw[e1,e2]at h
          cases e3:xz mk o with
          | none=>simp only[e3]at h;cases h
          | some p =>
            simp only[e3]at h;rw[ZC.mp h];exact⟨Yj _,e1,w,p,e2,e3,rfl⟩
theorem j4{mk:List (Key×V)}{outs:List Str}{ws:List Int}{j:Nat}{o:Str}{w p:Int}(h1:outs[j]? = some o)(h2:ws[j]? = some w)(h3:xz mk o=some p):∀n,j<n->(w-p,o,j)∈offers mk outs ws n
  | 0,h=>absurd h (Yy _)
  | n+1,h=>by
    rw[offers]
    by_cases e:j=n
    . subst e
      refine Zu _ ?_;rw[h1,h2];simp only[h3];exact ZC.mpr rfl
    . exact ZW _ (j4 h1 h2 h3 n (by omega))
theorem gb{mk:List (Key×V)}{outs:List Str}{ws:List Int}:∀n,(offers mk outs ws n).Pairwise fun x y=>x.2.2<y.2.2
  | 0=>List.Pairwise.nil
  | n+1=>by
    rw[offers];refine List.pairwise_append.mpr ⟨gb n,?_,fun x hx y hy => ?_⟩
    . split
      . split
        . exact List.pairwise_singleton _ _
        . exact List.Pairwise.nil
      . exact List.Pairwise.nil
    . have h1:=(kz n x hx).1
      have h2:y.2.2=n:=by
        split at hy
        . split at hy
          . rw[ZC.mp hy]
          . cases hy
        . cases hy
      omega
def fq(mk:List (Key×V))(outs:List Str)(ws:List Int)(i:Nat)(o:Str):Prop:=outs[i]? = some o/\∃w p,ws[i]? = some w/\xz mk o=some p/\∀(j:Nat) (o':Str) (w' p':Int),outs[j]? = some o'->ws[j]? = some w'->xz mk o'=some p'->w'-p'<=w-p/\(j<i->w'-p'<w-p)
structure OffAt(H:Hp)(as:List Addr)(os:List (Int×Str×Nat)):Prop where
  len:as.length=os.length
  at':∀(i:Nat) (a:Addr) (x:Int×Str×Nat),as[i]? = some a->os[i]? = some x->H a=some (.tup [.int x.1,.str x.2.1])
theorem OffAt.mono{H H':Hp}{as:List Addr}{os:List (Int×Str×Nat)}(S:Same H H')(h:OffAt H as os):OffAt H' as os:=⟨h.len,fun i a x e1 e2=>S _ _ (h.at' i a x e1 e2)⟩
theorem OffAt.snoc{H:Hp}{as:List Addr}{os:List (Int×Str×Nat)}{a:Addr}{x:Int×Str×Nat}(h:OffAt H as os)(ha:H a=some (.tup [.int x.1,.str x.2.1])):OffAt H (as++[a]) (os++[x]):=by
  refine⟨by simp[h.len],fun i b q e1 e2 => ?_⟩
  by_cases hi:i<as.length
  . rw[Zg hi]at e1
    rw[Zg (by rw[<-h.len];exact hi)]at e2;exact h.at' i b q e1 e2
  . rw[Zf (ZD.mp hi)]at e1
    rw[Zf (by rw[<-h.len];exact ZD.mp hi)]at e2
    have h0:i-as.length=0:=by
      have:=(Zc.mp e1).1;simp at this;omega
    rw[h0]at e1;rw[<-h.len,h0]at e2;simp at e1 e2;subst e1 e2;exact ha
def zhi(K:Fg):Sp:=fun vs H Q _=>∃(p o h me:Addr) (hs:List Addr) (outs:List Str) (ds:List HD) (k:Nat) (d:HD) (z:Str) (mk:List (Key×V)),vs=[.ref p,.int k,.ref me,.str z]/\HHouse H p o h hs outs ds/\GoodHouse outs ds/\ds[k]? = some d/\z∈d.words/\H me=some (.dK mk)/\MenuOk outs mk/\0<mk.length /\
  ∀H' i o',Same H H'->fq mk outs (wj d z) i o'->Q (.str o') H'
def PvOff(H:Hp)(mk:List (Key×V))(outs:List Str)(ws:List Int)(i:Nat)(ys:List V)(H':Hp):Prop:=Same H H'/\∃as:List Addr,ys=as.map V.ref/\OffAt H' as (offers mk outs ws i)
section
variable{P:Program}{w:World}{K:Fg}{mg:Str->Option Value}{base:Heap}{a:Ad}
theorem jx (D:ze K mg "left_of" m5 ["offer"]):FnAt P w K mg base "left_of" 1 ["offer"] (xm K 0):=by
  refine FnAt.of D zee (fun vs H Q E h => ?_) (fun f cdv A outer s H vs Q E hr h => ?_)
  . obtain⟨t,us,v,rfl,_⟩:=h
    rfl
  . obtain⟨t,us,v,rfl,ht,e,q⟩:=h
    refine⟨_,(@zi _ _ _ (@zm _ _ _ _ (@z0 _ _ _ _ _ _ _ ym (pv 0) (@zd _ _ _ _) (fun _ _=>rfl)))),?_⟩;rw[show start ["offer"] [V.ref t]=[some (V.ref t)] from rfl];simp only[zg,zf,↓reduceIte];exact⟨_,ht,_,z7 (j:=0) e,q⟩
theorem mm (D:ze K mg "outcome_of" sr ["offer"]):FnAt P w K mg base "outcome_of" 1 ["offer"] (xm K 1):=by
  refine FnAt.of D aa (fun vs H Q E h => ?_) (fun f cdv A outer s H vs Q E hr h => ?_)
  . obtain⟨t,us,v,rfl,_⟩:=h
    rfl
  . obtain⟨t,us,v,rfl,ht,e,q⟩:=h
    refine⟨_,(@zi _ _ _ (@zm _ _ _ _ (@z0 _ _ _ _ _ _ _ ym (pv 0) (@zd _ _ _ _) (fun _ _=>rfl)))),?_⟩;rw[show start ["offer"] [V.ref t]=[some (V.ref t)] from rfl];simp only[zg,zf,↓reduceIte];exact⟨_,ht,_,z7 (j:=1) e,q⟩
theorem zbu (B:Bt mg) (f_hands_of:FnAt P w K mg base "hands_of" 1 ["house"] (xm K 1)) (f_outcomes_of:FnAt P w K mg base "outcomes_of" 1 ["house"] (xm K 0)) (kj:FnAt P w K mg base "worths_by" 2 ["hand", "word"] (f9 K)) (jx:FnAt P w K mg base "left_of" 1 ["offer"] (xm K 0)) (mm:FnAt P w K mg base "outcome_of" 1 ["offer"] (xm K 1)) (D:ze K mg "pick" ef ["house", "k", "menu", "word"]):FnAt P w K mg base "pick" 3 ["house", "k", "menu", "word"] (zhi K):=by
  refine FnAt.of D sc_pick (fun vs H Q E h => ?_) (fun f cdv A outer s H vs Q E hr h => ?_)
  . obtain⟨p,o,h,me,hs,outs,ds,k,d,z,mk,rfl,_⟩:=h
    rfl
  . obtain⟨p,o,h,me,hs,outs,ds,k,d,z,mk,rfl,hH,G,ed,hz,hme,M,hm0,q⟩:=h
    refine⟨_,(@zj _ _ _ _ _ (zy (i:=4) sc_pick.nd rfl (Or.inl rfl) (zh kj (hr.mono (by decide)) rfl (za (@z0 _ _ _ _ _ _ _ ym (zh f_hands_of (hr.mono (by decide)) rfl (za (pv 0) (@zb _))) (pv 1) (fun _ _=>rfl)) (za (pv 3) (@zb _))))) (@zj _ _ _ _ _ (vm (i:=5) ["one", "worth"] ["house", "k", "menu", "word", "worths", "offers"] sc_pick.nd rfl rfl rfl (zjw rfl B.zip (za (zh f_outcomes_of (hr.mono (by decide)) rfl (za (pv 0) (@zb _))) (za (pv 4) (@zb _)))) (fun _=>(si rfl (y0 (zn (i:=0) (show(["one", "worth", "house", "k", "menu", "word", "worths", "offers"]:List Str).Nodup by decide +kernel) rfl (Or.inl rfl)) (y0 (zn (i:=1) (show(["one", "worth", "house", "k", "menu", "word", "worths", "offers"]:List Str).Nodup by decide +kernel) rfl (Or.inl rfl)) (@uk _))))) (fun _=>(@zjr _ _ _ (@yp _ _ _ _ _ _ _ _ (op_inK (hu10 hr)) (pv 0) (pv 4) (by with_unfolding_all rfl)))) (fun _=>(@y6 _ _ _ _ _ (za (@zk _ _ _ _ _ _ _ _ xr (pv 1) (@tu _ _ _ _ _ _ (hu10 hr) (pv 4) (pv 0) (fun _ _=>rfl))) (za (pv 0) (@zb _))))) rfl (by decide +kernel) rfl rfl rfl) (@zi _ _ _ (@zm _ _ _ _ (zh mm (hr.mono (by decide)) rfl (za (zi1 jx (hr.mono (by decide)) rfl rfl B.max rfl (za (pv 5) (@zb _))) (@zb _))))))),?_⟩;rw[show start ["house", "k", "menu", "word", "worths", "offers"] [V.ref p,V.int k,V.ref me,V.str z]=[some (V.ref p),some (V.int k),some (V.ref me),some (V.str z),none,none] from rfl];simp only[zg,zf,↓reduceIte];have hk:k<ds.length:=(Zc.mp ed).1;obtain⟨t,ht⟩:∃t,hs[k]? = some t:=⟨hs[k]'(by rw[hH.hand.1];exact hk),by simp⟩;obtain⟨wd,g,gs,hK⟩:=hH.hand.2 k t d ht ed;have hG:=G.hand (Zi ed)
    have lwb:(wj d z).length=outs.length:=by
      have hx:=Zz.mpr hz;have hr:d.words.idxOf z<d.worths.length:=by rw[hG.rows];exact hx
      rw[wj,Zk,Zb hr];exact(hG.cols _ (Zl hr)).1
    have ho:=G.outs1;refine⟨p,_,_,rfl,.of hH.tup,rfl,h,rfl,_,.of hH.hands,_,z7 (v:=V.ref t) (by rw[Ze,ht];rfl),?_⟩;refine⟨t,d,wd,g,gs,z,rfl,hK,hz,hG.rows,fun r hrr => ?_⟩;refine⟨p,_,_,rfl,.of hH.tup,rfl,o,rfl,?_⟩;generalize wj d z=ws at *
    have all:∀H',Same H H'->su K H' [o,r] [outs.map V.str,ws.map V.int]:=fun H' S=>⟨rfl,fun j a xs e1 e2=>by
      match j with
      | 0=>simp at e1 e2;subst e1 e2;exact .inr (.of (S _ _ hH.outs))
      | 1=>simp at e1 e2;subst e1 e2;exact .inr (.of (S _ _ hrr))
      | j+2=>simp at e1⟩
    refine⟨r,rfl,⟨_,all H (Same.refl _)⟩,fun dd => ?_⟩
    have olen:∀n,(offers mk outs ws n).length<=n:=by
      intro n
      induction n with
      | zero=>exact Zm _
      | succ n ih =>
        rw[offers,Zo]
        have:(match outs[n]?,ws[n]? with
          | some o,some n'=>(match xz mk o with
            | some p=>[(n'-p,o,n)]
            | none=>[])
          | _,_=>[]).length<=1:=by
          split
          . split
            . exact Zm _
            . exact ZE _
          . exact ZE _
        omega
    refine zha (xss:=[outs.map V.str,ws.map V.int]) (n:=outs.length) (PvOff H mk outs ws) ⟨Same.refl _,[],rfl,rfl,fun i l p e=>by simp at e⟩ (fun xs hx => ?_) ⟨outs.map V.str,by simp,Za ..⟩ ?_ ?_ ?_
    . simp only[ZK,Zx,or_false]at hx
      rcases hx with rfl | rfl
      . rw[Za];exact Zm _
      . rw[Za,lwb];exact Zm _
    . rintro i ys H2 hi ⟨S,as,rfl,hI⟩
      refine⟨?_,all H2 S⟩;rw[Za,hI.len];exact Zd (olen i) (Zd hi (Zd ho.2 (by decide)))
    . rintro i vs ys H2 T hi lv hv hT ⟨S,as,rfl,hI⟩
      have e0:=hv 0 _ rfl;have e1:=hv 1 _ rfl;have hd:outs[i]? = some outs[i]:=Zb hi;obtain⟨wt,hwt⟩:∃t,ws[i]? = some t:=⟨ws[i]'(by rw[lwb];exact hi),by simp⟩;rw[Ze,hd]at e0;rw[Ze,hwt]at e1
      have ev:vs=[V.str outs[i],V.int wt]:=by
        match vs,lv with
        | [x,y],_ =>
          simp at e0 e1;rw[<-e0,<-e1]
      subst ev;have S1:Same H2 (upd H2 T (.tup [V.str outs[i],V.int wt])):=Same.upd (Same.refl _) hT;simp only[zg,zf,↓reduceIte];refine⟨_,.of zc,rfl,?_⟩;generalize upd H2 T (.tup [V.str outs[i],V.int wt])=H3 at *;simp only[zg,zf,↓reduceIte];have hm3:H3 me=some (.dK mk):=(S.trans S1) _ _ hme;have og:=offers.eq_2 mk outs ws i;rw[hd,hwt]at og;refine⟨_,DGet.k (k:=Sum.inr outs[i]) hm3,?_⟩;rw[M.val]
      cases ep:xz mk outs[i] with
      | none =>
        simp only[ep,Yg]at og;refine⟨S.trans S1,as,rfl,?_⟩;rw[og];exact hI.mono S1
      | some pr =>
        simp only[ep]at og;refine⟨V.int pr,?_,pr,rfl,by decide,fun T4 hT4 => ?_⟩
        . have:=DGet.k (k:=Sum.inr outs[i]) hm3
          rw[M.val,ep]at this;exact this
        . have S4:=Same.upd (o:=.tup [V.int (wt-pr),V.str outs[i]]) (Same.refl H3) hT4
          refine⟨S.trans (S1.trans S4),as++[T4],by simp,?_⟩;rw[og];exact(hI.mono (S1.trans S4)).snoc zc
    . rintro ys H2 ⟨S,as,rfl,hI⟩ l2 hl2
      have S2:=Same.upd (o:=.lst (as.map V.ref)) (Same.refl H2) hl2;have hI2:=hI.mono S2;have hl3:upd H2 l2 (.lst (as.map V.ref)) l2=some (.lst (as.map V.ref)):=zc;generalize upd H2 l2 (.lst (as.map V.ref))=H3 at *
      have hat:∀(i:Nat) (x:V),(as.map V.ref)[i]? = some x->∃(t:Addr) (y:Int×Str×Nat),x=.ref t/\(offers mk outs ws outs.length)[i]? = some y/\H3 t=some (.tup [.int y.1,.str y.2.1]):=by
        intro i x e;rw[Ze]at e;obtain⟨t,e1,e2⟩:=YI.mp e;have hi:i<(offers mk outs ws outs.length).length:=by rw[<-hI2.len];exact(Zc.mp e1).1
        exact⟨t,_,e2.symm,Zb hi,hI2.at' i t _ e1 (Zb hi)⟩
      refine⟨_,.of hl3,?_,fun i=>((offers mk outs ws outs.length)[i]?.map (·.1)).getD 0,fun i x e => ?_,fun i x e hb => ?_⟩
      . rw[Za,hI2.len]
        obtain⟨kv,hkv⟩:∃kv,kv∈mk:=⟨mk[0],Zl hm0⟩;obtain⟨o',pr,ho',e⟩:=M.all kv hkv;obtain⟨j,hj,ej⟩:=Zy ho';obtain⟨wt,hwt⟩:∃t,ws[j]? = some t:=⟨ws[j]'(by rw[lwb];exact hj),by simp⟩
        have hp:∃p',xz mk o'=some p':=by
          cases ep:xz mk o' with
          | some p'=>exact⟨p',rfl⟩
          | none =>
            exfalso
            have hv:=M.val o';rw[ep]at hv;unfold valV at hv;have:=Option.map_eq_none_iff.mp hv;rw[List.find?_eq_none]at this;have:=this kv hkv;rw[e]at this;simp at this
        obtain⟨p',hp⟩:=hp;exact List.length_pos_of_mem (j4 (by rw[Zb hj,ej]) hwt hp outs.length hj)
      . obtain⟨t,y,rfl,ey,hy⟩:=hat i x e
        refine⟨t,_,_,rfl,.of hy,rfl,?_,rfl⟩;simp only[ey];rfl
      . obtain⟨t,y,rfl,ey,hy⟩:=hat i x e
        refine⟨t,_,_,rfl,.of hy,rfl,q H3 y.2.2 y.2.1 (S.trans S2) ?_⟩;obtain⟨hlt,ho',wt,pr,hw',hp',hxe⟩:=kz _ y (Zi ey);refine⟨ho',wt,pr,hw',hp',fun j o2 w2 p2 h1 h2 h3 => ?_⟩;have hj:j<outs.length:=(Zc.mp h1).1;obtain⟨m,hm,em⟩:=Zy (j4 h1 h2 h3 outs.length hj);have em':(offers mk outs ws outs.length)[m]? = some (w2-p2,o2,j):=by rw[Zb hm,em]
        have hb':=hb m (by rw[Za,hI2.len];exact hm);simp only[em',ey,Yx,YL]at hb';rw[<-hxe];refine⟨hb'.1,fun hji=>hb'.2 ?_⟩;obtain⟨hil,ei⟩:=Zc.mp ey
        rcases Nat.lt_trichotomy m i with h | h | h
        . exact h
        . subst h
          rw[ei]at em;rw[em]at hji;exact absurd hji (ZJ _)
        . have:=ZZ.mp (gb (mk:=mk) (outs:=outs) (ws:=ws) outs.length) i m hil hm h
          rw[ei,em]at this;simp at this;omega
end
def ya(r:List Str):List Key:=r.map Sum.inr
theorem xw(r:List Str):(ya r).map kV=r.map V.str:=by
  rw[ya,Xc];rfl
theorem ul{r q:List Str}(h:ya r=ya q):r=q:=by
  induction r generalizing q with
  | nil=>cases q with
    | nil=>rfl
    | cons _ _=>cases h
  | cons x xs ih=>cases q with
    | nil=>cases h
    | cons y ys =>
      rw[ya,ya,ZM,ZM]at h
      injection h with h1 h2
      injection h1 with h1
      rw[h1,ih h2]
def xq(f:List Str->Str)(rs:List (List Str)):List (List Key×V):=rs.map fun r=>(ya r,V.str (f r))
theorem zcf(f:List Str->Str)(rs:List (List Str)):(xq f rs).map (·.1)=rs.map ya:=by rw[xq,Xc];rfl
theorem zfx{f:List Str->Str}{rs:List (List Str)}(h:rs.Nodup):((xq f rs).map (·.1)).Nodup:=by
  rw[zcf];exact YG.mpr (List.Pairwise.imp (fun {a b} hab e=>hab (ul e)) h)
theorem kx{f:List Str->Str}{rs:List (List Str)}{r:List Str}(h:r∈rs):valV (xq f rs) (ya r)=some (V.str (f r)):=by
  induction rs with
  | nil=>cases h
  | cons q rs ih =>
    rw[xq,ZM]
    by_cases e:q=r
    . rw[r9 (by rw[e]),e]
    . rw[tj (fun z=>e (ul z))]
      exact ih ((ZK.mp h).resolve_left fun z=>e z.symm)
theorem gf{H H':Hp}{Ts:List Addr}{kvs:List (List Key×V)}(S:Same H H')(h:rg H Ts kvs):rg H' Ts kvs:=⟨h.len,fun i T kv e1 e2=>by
  obtain⟨b,h1,h2⟩:=h.at' i T kv e1 e2
  exact⟨b,S _ _ h1,S _ _ h2⟩⟩
theorem zb5{H:Hp}{Ts:List Addr}{kvs:List (List Key×V)}{T b:Addr}{kv:List Key×V}(h:rg H Ts kvs)(hT:H T=some (.tup [.ref b,kv.2]))(hb:H b=some (.tup (kv.1.map kV))):rg H (Ts++[T]) (kvs++[kv]):=by
  refine⟨by simp[h.len],fun i a q e1 e2 => ?_⟩
  by_cases hi:i<Ts.length
  . rw[Zg hi]at e1
    rw[Zg (by rw[<-h.len];exact hi)]at e2;exact h.at' i a q e1 e2
  . rw[Zf (ZD.mp hi)]at e1
    rw[Zf (by rw[<-h.len];exact ZD.mp hi)]at e2
    have h0:i-Ts.length=0:=by
      have:=(Zc.mp e1).1;simp at this;omega
    rw[h0]at e1;rw[<-h.len,h0]at e2;simp at e1 e2;subst e1 e2;exact⟨b,hT,hb⟩
def tz(K:Fg):Sp:=fun vs H Q _=>∃(g:Addr) (as:List Addr) (rows:List (List Int)) (s t:Nat) (ns:List Int) (x y:Int),vs=[.ref g,.int s,.int t]/\GridL K H g as rows/\rows[t]? = some ns/\ns[t]? = some x/\ns[s]? = some y/\Q (.int (x-y)) H
def gcA(rows:List (List Int))(t s:Nat):Int:=(rows.getD t []).getD s 0
def mx(rows:List (List Int))(ps:List Int)(t s:Nat):Int:=ps.getD t 0-ps.getD s 0-(gcA rows t t-gcA rows t s)
def zaf(rows:List (List Int))(n:Nat):Prop:=∀i:Nat,i<n->∃ns:List Int,rows[i]? = some ns/\ns.length=n
theorem kn{rows:List (List Int)}{t s:Nat}{ns:List Int}(h:rows[t]? = some ns)(hs:s<ns.length):ns[s]? = some (gcA rows t s):=by
  unfold gcA;rw[Zk,Zk,h];simp[hs]
theorem dm{ps:List Int}{t:Nat}(h:t<ps.length):ps[t]? = some (ps.getD t 0):=by
  rw[Zk];simp[h]
def zdn(K:Fg):Sp:=fun vs H Q _=>∃(g p:Addr) (as:List Addr) (rows:List (List Int)) (ps:List Int) (n s t:Nat),vs=[.ref g,.ref p,.int t,.int s]/\GridL K H g as rows/\SqL K H p (ps.map V.int)/\ps.length=n/\zaf rows n/\s<n/\t<n/\Q (.int (mx rows ps t s)) H
def First(rows:List (List Int))(ps:List Int)(n:Nat):Option (Nat×Nat)->Prop
  | none=>∀t s:Nat,t<n->s<n->mx rows ps t s<=0
  | some (t,s)=>t<n/\s<n/\0<mx rows ps t s/\∀t' s':Nat,t'<n->s'<n->(t'<t\/(t'=t/\s'<s))->mx rows ps t' s'<=0
theorem First.one{rows:List (List Int)}{ps:List Int}{n:Nat}{r r':Option (Nat×Nat)}(h:First rows ps n r)(h':First rows ps n r'):r=r':=by
  match r,r',h,h' with
  | none,none,_,_=>rfl
  | none,some (t,s),h,h'=>have:=h t s h'.1 h'.2.1;have:=h'.2.2.1;omega
  | some (t,s),none,h,h'=>have:=h' t s h.1 h.2.1;have:=h.2.2.1;omega
  | some (t,s),some (t',s'),h,h' =>
    have a1:=h.2.2.2 t' s' h'.1 h'.2.1;have a2:=h'.2.2.2 t s h.1 h.2.1;have b1:=h.2.2.1;have b2:=h'.2.2.1
    by_cases e:t=t'
    . subst e
      by_cases e2:s=s'
      . subst e2;rfl
      . exfalso
        rcases Nat.lt_or_gt_of_ne e2 with z | z
        . have:=a2 (.inr ⟨rfl,z⟩);omega
        . have:=a1 (.inr ⟨rfl,z⟩);omega
    . exfalso
      rcases Nat.lt_or_gt_of_ne e with z | z
      . have:=a2 (.inl z);omega
      . have:=a1 (.inl z);omega
def spFG(K:Fg):Sp:=fun vs H Q _=>∃(g p:Addr) (as:List Addr) (rows:List (List Int)) (ps:List Int) (n:Nat),vs=[.ref g,.ref p]/\GridL K H g as rows/\as.length=n/\SqL K H p (ps.map V.int)/\ps.length=n/\n<=8/\zaf rows n /\
  (First rows ps n none->Q .non H)/\∀t s:Nat,First rows ps n (some (t,s))->∀l,H l=none->Q (.ref l) (upd H l (.tup [.int t,.int s,.int (mx rows ps t s)]))
def PvFG(g p:Addr)(rows:List (List Int))(ps:List Int)(n:Nat)(k:Nat)(H:Hp)(i:Nat)(σ:L2.St)(H4:Hp):Prop:=H4=H/\(∃vs:List (Option V),vs.length=k/\σ=some (.ref g)::some (.ref p)::vs)/\∀t s:Nat,t<i->s<n->mx rows ps t s<=0
def PvFG2(g p:Addr)(rows:List (List Int))(ps:List Int)(n:Nat)(k:Nat)(H:Hp)(t:Nat)(j:Nat)(σ:L2.St)(H4:Hp):Prop:=H4=H/\(∃vs:List (Option V),vs.length=k/\σ=some (.ref g)::some (.ref p)::some (.int t)::vs)/\∀s:Nat,s<j->mx rows ps t s<=0
section
variable{P:Program}{w:World}{K:Fg}{mg:Str->Option Value}{base:Heap}
theorem uf (D:ze K mg "turn" eg ["grid", "s", "t"]):FnAt P w K mg base "turn" 1 ["grid", "s", "t"] (tz K):=by
  refine FnAt.of D zi7 (fun vs H Q E h => ?_) (fun f cdv A outer s H vs Q E hr h => ?_)
  . obtain⟨g,as,rows,s,t,ns,x,y,rfl,_⟩:=h
    rfl
  . obtain⟨g,as,rows,s,t,ns,x,y,rfl,G,h1,h2,h3,q⟩:=h
    refine⟨_,(@zi _ _ _ (@zm _ _ _ _ (@zk _ _ _ _ _ _ _ _ xr (@z0 _ _ _ _ _ _ _ yc (@z0 _ _ _ _ _ _ _ yc (pv 0) (pv 2) (fun _ _=>rfl)) (pv 2) (fun _ _=>rfl)) (@z0 _ _ _ _ _ _ _ yc (@z0 _ _ _ _ _ _ _ yc (pv 0) (pv 2) (fun _ _=>rfl)) (pv 1) (fun _ _=>rfl))))),?_⟩;rw[show start ["grid", "s", "t"] [V.ref g,V.int s,V.int t]=[some (V.ref g),some (V.int s),some (V.int t)] from rfl];simp only[zg,zf,↓reduceIte];obtain⟨r,e1,e2⟩:=fb G h1;exact⟨_,G.1,_,e1,r,rfl,_,e2,_,v7 h2,_,G.1,_,e1,r,rfl,_,e2,_,v7 h3,_,rfl,_,rfl,q⟩
theorem zau (uf:FnAt P w K mg base "turn" 1 ["grid", "s", "t"] (tz K)) (D:ze K mg "gain" e6 ["grid", "pays", "t", "s"]):FnAt P w K mg base "gain" 2 ["grid", "pays", "t", "s"] (zdn K):=by
  refine FnAt.of D zj7 (fun vs H Q E h => ?_) (fun f cdv A outer s H vs Q E hr h => ?_)
  . obtain⟨g,p,as,rows,ps,n,s,t,rfl,_⟩:=h
    rfl
  . obtain⟨g,p,as,rows,ps,n,s,t,rfl,G,hp,lp,hw,hs,ht,q⟩:=h
    refine⟨_,(@zi _ _ _ (@zm _ _ _ _ (@zk _ _ _ _ _ _ _ _ xr (@zk _ _ _ _ _ _ _ _ xr (@z0 _ _ _ _ _ _ _ yc (pv 1) (pv 2) (fun _ _=>rfl)) (@z0 _ _ _ _ _ _ _ yc (pv 1) (pv 3) (fun _ _=>rfl))) (zh uf (hr.mono (by decide)) rfl (za (pv 0) (za (pv 3) (za (pv 2) (@zb _)))))))),?_⟩;rw[show start ["grid", "pays", "t", "s"] [V.ref g,V.ref p,V.int t,V.int s]=[some (V.ref g),some (V.ref p),some (V.int t),some (V.int s)] from rfl];simp only[zg,zf,↓reduceIte];obtain⟨ns,e1,l1⟩:=hw t ht;refine⟨_,hp,_,v7 (dm (by omega)),_,hp,_,v7 (dm (by omega)),_,rfl,_,rfl,g,as,rows,s,t,ns,_,_,rfl,G,e1,kn e1 (by omega),kn e1 (by omega),?_⟩;simp only[zg,zf,↓reduceIte];exact q
theorem ma (B:Bt mg) (zau:FnAt P w K mg base "gain" 2 ["grid", "pays", "t", "s"] (zdn K)) (D:ze K mg "first_gain" s9 ["grid", "pays"]):FnAt P w K mg base "first_gain" 3 ["grid", "pays"] (spFG K):=by
  refine FnAt.of D sc_first_gain (fun vs H Q E h => ?_) (fun f cdv A outer s H vs Q E hr h => ?_)
  . obtain⟨g,p,as,rows,ps,n,rfl,_⟩:=h
    rfl
  . obtain⟨g,p,as,rows,ps,n,rfl,G,la,hp,lp,hn,hw,q0,q1⟩:=h
    refine⟨_,(@zj _ _ _ _ _ (xc PassesOwn.never rfl (yv rfl B.range (za (zr zw rfl B.len yd (za (pv 0) (@zb _))) (@zb _))) (zn (i:=2) sc_first_gain.nd rfl (Or.inl rfl)) (@zi _ _ _ (xc PassesOwn.never rfl (yv rfl B.range (za (zr zw rfl B.len yd (za (pv 0) (@zb _))) (@zb _))) (zn (i:=3) sc_first_gain.nd rfl (Or.inl rfl)) (@zj _ _ _ _ _ (zy (i:=4) sc_first_gain.nd rfl (Or.inl rfl) (zh zau (hr.mono (by decide)) rfl (za (pv 0) (za (pv 1) (za (pv 2) (za (pv 3) (@zb _))))))) (@zi _ _ _ (@yu _ _ _ _ _ _ _ _ (@yp _ _ _ _ _ _ _ _ zes (pv 4) (@zd _ _ _ _) (yk _)) (@zi _ _ _ (@zm _ _ _ _ (@y6 _ _ _ _ _ (za (pv 2) (za (pv 3) (za (pv 4) (@zb _))))))) (@yg _))))))) (@zi _ _ _ (@zm _ _ _ _ (@ph _ _ _)))),?_⟩;rw[show start ["grid", "pays", "t", "s", "more"] [V.ref g,V.ref p]=[some (V.ref g),some (V.ref p),none,none,none] from rfl];simp only[zg,zf,↓reduceIte];refine⟨_,.inl G.1,?_⟩;rw[Za,la];refine⟨by omega,by omega,?_⟩;rw[Zw];refine xx (PvFG g p rows ps n 3 H) ⟨rfl,⟨_,rfl,rfl⟩,fun t s h=>by omega⟩ ?_ ?_
    . rintro i σ H4 hi ⟨rfl,⟨vs,lv,rfl⟩,no⟩
      match vs,lv with
      | [v2,v3,v4],_ =>
      simp only[zg,zf,↓reduceIte];refine⟨_,.inl G.1,?_⟩;rw[Za,la];refine⟨by omega,by omega,?_⟩;rw[Zw];refine xx (PvFG2 g p rows ps n 2 H4 i) ⟨rfl,⟨_,rfl,rfl⟩,fun s h=>by omega⟩ ?_ ?_
      . rintro j σ H5 hj ⟨rfl,⟨vs,lv,rfl⟩,no2⟩
        match vs,lv with
        | [v3,v4],_ =>
        simp only[zg,zf,↓reduceIte];refine⟨g,p,as,rows,ps,n,j,i,rfl,G,hp,lp,hw,hj,hi,?_⟩;simp only[zg,zf,↓reduceIte];refine ite2 (fun h => ?_) fun h => ?_
        . refine⟨by decide,q1 i j ⟨hi,hj,of_decide_eq_true h,fun t' s' h1 h2 h3 => ?_⟩⟩
          rcases h3 with z | ⟨rfl,z⟩
          . exact no t' s' z h2
          . exact no2 s' z
        . refine⟨rfl,⟨_,rfl,rfl⟩,fun s hs => ?_⟩
          by_cases e:s=j
          . subst e
            exact Int.not_lt.mp fun z=>h (decide_eq_true z)
          . exact no2 s (by omega)
      . rintro σ H5 ⟨rfl,⟨vs,lv,rfl⟩,no2⟩
        refine⟨rfl,⟨_,by simp[lv],rfl⟩,fun t s ht hs => ?_⟩
        by_cases e:t=i
        . subst e;exact no2 s hs
        . exact no t s (by omega) hs
    . rintro σ H4 ⟨rfl,⟨vs,lv,rfl⟩,no⟩
      simp only[zg,zf,↓reduceIte];exact q0 fun t s ht hs=>no t s ht hs
end
def zz(rows:List (List Int))(s t:Nat):Int:=gcA rows t t-gcA rows t s
theorem dz(rows:List (List Int))(t:Nat):zz rows t t=0:=by unfold zz;omega
def i0:Nat->List Nat->Nat
  | a,[]=>a
  | _,w::ws=>i0 w ws
abbrev nI(ws:List Nat):List Int:=ws.map fun w:Nat=>((w:Nat):Int)
theorem zdm:∀{ws:List Nat} {a:Nat},((nI (a::ws)).map V.int)=((nI (a::ws)).map V.int).dropLast++[V.int (i0 a ws)]
  | [],a=>rfl
  | w::ws,a=>by
    have ih:=@zdm ws w
    show V.int a::((nI (w::ws)).map V.int)=V.int a::(((nI (w::ws)).map V.int).dropLast++[V.int (i0 w ws)])
    rw[<-ih]
theorem zcw(a:Nat)(ws:List Nat):atI ((nI (a::ws)).map V.int) (-1)=some (V.int (i0 a ws)):=by
  rw[zdm];exact zik _ _
def wk(T:Nat->Nat->Int):Nat->List Nat->Int
  | _,[]=>0
  | a,w::ws=>T a w+wk T w ws
def lst:Nat->List Nat->Nat
  | a,[]=>a
  | _,w::ws=>lst w ws
theorem x0:∀(ws:List Nat) (a x:Nat),lst a (ws++[x])=x
  | [],_,_=>rfl
  | w::ws,_,x=>x0 ws w x
theorem ci:∀(ps:List Nat) (a b:Nat) (ss:List Nat),lst a (ps++b::ss)=lst b ss
  | [],_,_,_=>rfl
  | p::ps,_,b,ss=>ci ps p b ss
theorem kq(T:Nat->Nat->Int):∀(ps:List Nat) (a b:Nat) (ss:List Nat),wk T a (ps++b::ss)=wk T a (ps++[b])+wk T b ss
  | [],a,b,ss=>by show T a b+wk T b ss=T a b+0+wk T b ss;omega
  | p::ps,a,b,ss=>by
    show T a p+wk T p (ps++b::ss)=T a p+wk T p (ps++[b])+wk T b ss
    rw[kq T ps p b ss];omega
theorem vo(T:Nat->Nat->Int):∀(ws:List Nat) (a x:Nat),wk T a (ws++[x])=wk T a ws+T (lst a ws) x
  | [],a,x=>by show T a x+0=0+T a x;omega
  | w::ws,a,x=>by
    show T a w+wk T w (ws++[x])=T a w+wk T w ws+T (lst w ws) x
    rw[vo T ws w x];omega
theorem zdx:∀(ws:List Nat) (a:Nat),lst a ws∈a::ws
  | [],a=>by simp[lst]
  | w::ws,a=>Zv _ (zdx ws w)
theorem v0:∀(ws:List Nat) (a:Nat),a::ws=(a::ws).dropLast++[lst a ws]
  | [],a=>rfl
  | w::ws,a=>by
    have ih:=v0 ws w
    show a::(w::ws)=a::((w::ws).dropLast++[lst w ws])
    rw[<-ih]
structure Wk(n k s t:Nat)(ws:List Nat):Prop where
  len:ws.length=k
  lt:∀x∈ws,x<n
  to:lst s ws=t
structure Least(T:Nat->Nat->Int)(n k s t:Nat)(ws:List Nat):Prop where
  w:Wk n k s t ws
  least:∀ws',Wk n k s t ws'->wk T s ws<=wk T s ws'
theorem Least.one(T:Nat->Nat->Int){n s t:Nat}(ht:t<n):Least T n 1 s t [t]:=by
  refine⟨⟨rfl,fun x hx=>by rw[ZC.mp hx];exact ht,rfl⟩,fun ws' h => ?_⟩
  match ws',h.len,h.to with
  | [x],_,h2 =>
    have e:x=t:=h2;subst e;exact Yu _
theorem Least.more{T:Nat->Nat->Int}{n k s t:Nat}(ht:t<n)(f:Nat->List Nat)(hf:∀u,u<n->Least T n k s u (f u))(hk:0<k){i:Nat}(hi:i<n)(hm:∀u,u<n->wk T s (f i)+T i t<=wk T s (f u)+T u t):Least T n (k+1) s t (f i++[t]):=by
  have hi':=(hf i hi).w;refine⟨⟨by rw[Zo,hi'.len];rfl,fun x hx => ?_,x0 _ _ _⟩,fun ws' h => ?_⟩
  . rcases ZH.mp hx with z | z
    . exact hi'.lt x z
    . rw[ZC.mp z];exact ht
  . have hne:ws'≠[]:=by intro e;subst e;have:=h.len;simp at this
    obtain⟨w,r,rfl⟩:∃w r,ws'=w::r:=by
      cases ws' with
      | nil=>exact absurd rfl hne
      | cons w r=>exact⟨w,r,rfl⟩
    have e1:=v0 r w;have e2:lst w r=t:=h.to;rw[e2]at e1;generalize hp:(w::r).dropLast=p at e1;rw[e1]at h ⊢;rw[vo,vo];have hl:p.length=k:=by have:=h.len;rw[Zo]at this;simpa using this
    have hlt:∀x∈p,x<n:=fun x hx=>h.lt x (ZW _ hx)
    have hu:lst s p<n:=by
      cases p with
      | nil=>simp at hl;omega
      | cons y q=>exact hlt _ (zdx q y)
    have q:=(hf (lst s p) hu).least p ⟨hl,hlt,rfl⟩;have q2:=hm (lst s p) hu;have q3:=hi'.to;rw[q3];omega
def NoNeg(T:Nat->Nat->Int)(n k:Nat):Prop:=∀s ws,s<n->Wk n k s s ws->0<=wk T s ws
theorem NoNeg.zero(T:Nat->Nat->Int)(n:Nat):NoNeg T n 0:=fun s ws _ h=>by
  have:=h.len
  cases ws with
  | nil=>exact Yu _
  | cons _ _=>simp at this
theorem NoNeg.one{T:Nat->Nat->Int}(h0:∀t,T t t=0)(n:Nat):NoNeg T n 1:=fun s ws _ h=>by
  match ws,h.len,h.to with
  | [x],_,h2 =>
    have e:x=s:=h2;subst e
    show 0<=T x x+0
    rw[h0];exact Yu _
theorem twice{l:List Nat}(h:¬l.Nodup):∃x A B C,l=A++x::(B++x::C):=by
  induction l with
  | nil=>exact absurd Yq h
  | cons a r ih =>
    by_cases ha:a∈r
    . obtain⟨B,C,e⟩:=List.append_of_mem ha
      exact⟨a,[],B,C,by rw[e];rfl⟩
    . have hr:¬r.Nodup:=fun q=>h (ZQ.mpr ⟨ha,q⟩)
      obtain⟨x,A,B,C,e⟩:=ih hr;exact⟨x,a::A,B,C,by rw[e];rfl⟩
theorem parts{T:Nat->Nat->Int}{n k s:Nat}{ws:List Nat}(hs:s<n)(hk:0<k)(h:Wk n k s s ws)(hd:¬(s::ws.dropLast).Nodup)(hno:∀j,j<k->NoNeg T n j):0<=wk T s ws:=by
  obtain⟨x,A,B,C,e⟩:=twice hd;have hne:ws≠[]:=by intro q;subst q;have:=h.len;simp at this;omega
  obtain⟨w,r,rfl⟩:∃w r,ws=w::r:=by
    cases ws with
    | nil=>exact absurd rfl hne
    | cons w r=>exact⟨w,r,rfl⟩
  have e1:=v0 r w;have e2:lst w r=s:=h.to;rw[e2]at e1;generalize hp:(w::r).dropLast=p at e e1;rw[e1]at h ⊢;have hlen:p.length+1=k:=by have:=h.len;rw[Zo]at this;simpa using this
  have hlt:=h.lt
  cases A with
  | nil =>
    injection e with ea eb
    subst ea;rw[eb]at hlen hlt ⊢;have l1:B.length+1+C.length+1=k:=by rw[Zo,ZN]at hlen;omega
    rw[List.append_assoc,Yk,kq]
    have q1:=hno (B.length+1) (by omega) s (B++[s]) hs ⟨by simp,fun y hy=>hlt y (by
      simp only[ZH,ZK,ZC]at hy ⊢
      rcases hy with z | z
      . exact .inl (.inl z)
      . exact .inr (by simpa using z)),x0 _ _ _⟩
    have q2:=hno (C.length+1) (by omega) s (C++[s]) hs ⟨by simp,fun y hy=>hlt y (by
      simp only[ZH,ZK,ZC]at hy ⊢
      rcases hy with z | z
      . exact .inl (.inr (.inr z))
      . exact .inr (by simpa using z)),x0 _ _ _⟩
    omega
  | cons a A =>
    obtain⟨ea,eb⟩:s=a/\p=A++x::(B++x::C):=by
      injection e with ea eb
      exact⟨ea,eb⟩
    subst ea;rw[eb]at hlen hlt ⊢
    have l1:A.length+1+B.length+1+C.length+1=k:=by
      simp only[Zo,ZN]at hlen;omega
    have hx:x<n:=hlt x (by simp);have e3:(A++x::(B++x::C))++[s]=A++x::(B++x::(C++[s])):=by simp
    rw[e3,kq,kq T B]
    have q1:=hno (B.length+1) (by omega) x (B++[x]) hx ⟨by simp,fun y hy=>hlt y (by
      simp only[ZH,ZK,ZC]at hy ⊢
      rcases hy with z | z
      . exact .inl (.inr (.inr (.inl z)))
      . exact .inl (.inr (.inl (by simpa using z)))),x0 _ _ _⟩
    have q2:=hno (A.length+1+(C.length+1)) (by omega) s (A++x::(C++[s])) hs ⟨by simp;omega,fun y hy=>hlt y (by
      simp only[ZH,ZK,ZC]at hy ⊢
      rcases hy with z | z | z | z
      . exact .inl (.inl z)
      . exact .inl (.inr (.inl z))
      . exact .inl (.inr (.inr (.inr (.inr z))))
      . exact .inr (by simpa using z)),by rw[ci,x0]⟩
    rw[kq]at q2;omega
theorem few{n:Nat}:∀{l:List Nat},l.Nodup->(∀x∈l,x<n)->l.length<=n:=by
  induction n with
  | zero =>
    intro l _ h
    cases l with
    | nil=>exact Zm _
    | cons a r=>exact absurd (h a ZA) (Yy _)
  | succ n ih =>
    intro l hd h
    have q:=ih (l:=l.erase n) (hd.erase n) fun x hx=>by
      have h1:=(List.Nodup.mem_erase_iff hd).mp hx;have h2:=h x h1.2;have h3:=h1.1;omega
    have z:=List.length_erase (a:=n) (l:=l)
    split at z <;> omega
theorem NoNeg.all{T:Nat->Nat->Int}{n:Nat}(h:∀j,j<=n->NoNeg T n j):∀k,NoNeg T n k:=by
  intro k
  induction k using Nat.strongRecOn with
  | ind k ih =>
    by_cases hk:k<=n
    . exact h k hk
    . intro s ws hs hw
      refine parts hs (by omega) hw (fun hd => ?_) ih;have hl:(s::ws.dropLast).length=k:=by rw[ZN,List.length_dropLast,hw.len];omega
      have:=few hd (fun x hx=>by
        rcases ZK.mp hx with z | z
        . rw[z];exact hs
        . exact hw.lt x (List.dropLast_subset _ z))
      omega
def rnd(T:Nat->Nat->Int):List Nat->Int
  | []=>0
  | a::ws=>wk T a (ws++[a])
structure RingA(T:Nat->Nat->Int)(n:Nat)(c:List Nat):Prop where
  two:2<=c.length
  nd:c.Nodup
  lt:∀x∈c,x<n
  neg:rnd T c<0
  few:∀j,j<c.length->NoNeg T n j
theorem RingA.of{T:Nat->Nat->Int}{n k s:Nat}{ws:List Nat}(h0:∀t,T t t=0)(hs:s<n)(h:Wk n k s s ws)(hneg:wk T s ws<0)(hno:∀j,j<k->NoNeg T n j):RingA T n ((s::ws).dropLast):=by
  have hk:2<=k:=by
    rcases Nat.lt_or_ge k 2 with z | z
    . exfalso
      have:k=0\/k=1:=by omega
      rcases this with rfl | rfl
      . have:=NoNeg.zero T n s ws hs h;omega
      . have:=NoNeg.one h0 n s ws hs h;omega
    . exact z
  obtain⟨w,r,rfl⟩:∃w r,ws=w::r:=by
    cases ws with
    | nil=>have:=h.len;simp at this;omega
    | cons w r=>exact⟨w,r,rfl⟩
  have e0:(s::w::r).dropLast=s::(w::r).dropLast:=rfl;have e1:=v0 r w;have e2:lst w r=s:=h.to;rw[e2]at e1;rw[e0];have hl:(s::(w::r).dropLast).length=k:=by rw[ZN,List.length_dropLast,h.len];omega
  refine⟨by rw[hl];exact hk,Classical.byContradiction fun hd => ?_,fun x hx => ?_,?_,fun j hj=>hno j (by rw[hl]at hj;exact hj)⟩
  . have:=parts hs (by omega) h hd hno
    omega
  . rcases ZK.mp hx with z | z
    . rw[z];exact hs
    . exact h.lt x (List.dropLast_subset _ z)
  . show wk T s ((w::r).dropLast++[s])<0
    rw[<-e1];exact hneg
theorem NoNeg.rnd{T:Nat->Nat->Int}{n k:Nat}(h:NoNeg T n k){c:List Nat}(hl:c.length=k)(hc:∀x∈c,x<n):0<=rnd T c:=by
  cases c with
  | nil=>exact Yu _
  | cons a ws =>
    exact h a (ws++[a]) (hc a ZA) ⟨by simpa using hl,fun x hx=>by
      rcases ZH.mp hx with z | z
      . exact hc x (Zv _ z)
      . rw[ZC.mp z];exact hc a ZA,x0 _ _ _⟩
theorem ze4:∀(ws:List Nat) (a:Nat),lst a ws=i0 a ws
  | [],_=>rfl
  | w::ws,_=>ze4 ws w
def WalkAt(H:Hp)(v:V)(T:Nat->Nat->Int)(s:Nat)(ws:List Nat):Prop:=∃p l,v=.ref p/\H p=some (.tup [.int (wk T s ws),.ref l])/\H l=some (.lst ((nI (s::ws)).map V.int))
def RowAt(H:Hp)(v:V)(T:Nat->Nat->Int)(n k s:Nat):Prop:=∃r xs,v=.ref r/\H r=some (.lst xs)/\xs.length=n/\∀t,t<n->∃x ws,xs[t]? = some x/\WalkAt H x T s ws/\Least T n k s t ws
def RowsAt(H:Hp)(v:V)(T:Nat->Nat->Int)(n k:Nat):Prop:=∃r xs,v=.ref r/\H r=some (.lst xs)/\xs.length=n/\∀s,s<n->∃x,xs[s]? = some x/\RowAt H x T n k s
theorem WalkAt.mono{H H':Hp}{v:V}{T:Nat->Nat->Int}{s:Nat}{ws:List Nat}(S:Same H H')(h:WalkAt H v T s ws):WalkAt H' v T s ws:=by
  obtain⟨p,l,e,h1,h2⟩:=h;exact⟨p,l,e,S _ _ h1,S _ _ h2⟩
theorem RowAt.mono{H H':Hp}{v:V}{T:Nat->Nat->Int}{n k s:Nat}(S:Same H H')(h:RowAt H v T n k s):RowAt H' v T n k s:=by
  obtain⟨r,xs,e,h1,h2,h3⟩:=h
  exact⟨r,xs,e,S _ _ h1,h2,fun t ht=>by
    obtain⟨x,ws,e1,e2,e3⟩:=h3 t ht
    exact⟨x,ws,e1,e2.mono S,e3⟩⟩
theorem RowsAt.mono{H H':Hp}{v:V}{T:Nat->Nat->Int}{n k:Nat}(S:Same H H')(h:RowsAt H v T n k):RowsAt H' v T n k:=by
  obtain⟨r,xs,e,h1,h2,h3⟩:=h
  exact⟨r,xs,e,S _ _ h1,h2,fun s hs=>by
    obtain⟨x,e1,e2⟩:=h3 s hs
    exact⟨x,e1,e2.mono S⟩⟩
def RowPre(H0:Hp)(T:Nat->Nat->Int)(n k s:Nat)(i:Nat)(ys:List V)(H2:Hp):Prop:=Same H0 H2/\ys.length=i/\∀t,t<i->∃x ws,ys[t]? = some x/\WalkAt H2 x T s ws/\Least T n k s t ws
theorem RowPre.snoc{H0 H2 H3:Hp}{T:Nat->Nat->Int}{n k s i:Nat}{ys:List V}{x:V}{ws:List Nat}(h:RowPre H0 T n k s i ys H2)(S:Same H2 H3)(hx:WalkAt H3 x T s ws)(hl:Least T n k s i ws):RowPre H0 T n k s (i+1) (ys++[x]) H3:=by
  obtain⟨h1,h2,h3⟩:=h;refine⟨h1.trans S,by rw[Zo,h2];rfl,fun t ht => ?_⟩
  by_cases e:t<i
  . obtain⟨y,us,e1,e2,e3⟩:=h3 t e
    exact⟨y,us,by rw[Zg (by omega)];exact e1,e2.mono S,e3⟩
  . have:t=i:=by omega
    subst this;exact⟨x,ws,by rw[Zf (by omega),h2];simp,hx,hl⟩
theorem RowPre.done{H0 H2:Hp}{T:Nat->Nat->Int}{n k s:Nat}{ys:List V}{l:Addr}(h:RowPre H0 T n k s n ys H2)(hl:H2 l=none):Same H0 (upd H2 l (.lst ys))/\RowAt (upd H2 l (.lst ys)) (.ref l) T n k s:=by
  obtain⟨h1,h2,h3⟩:=h;have S:Same H2 (upd H2 l (.lst ys)):=Same.upd (Same.refl _) hl;refine⟨h1.trans S,l,ys,rfl,zc,h2,fun t ht => ?_⟩;obtain⟨y,us,e1,e2,e3⟩:=h3 t ht;exact⟨y,us,e1,e2.mono S,e3⟩
def RowsPre(H0:Hp)(T:Nat->Nat->Int)(n k:Nat)(i:Nat)(ys:List V)(H2:Hp):Prop:=Same H0 H2/\ys.length=i/\∀t,t<i->∃x,ys[t]? = some x/\RowAt H2 x T n k t
theorem RowsPre.snoc{H0 H2 H3:Hp}{T:Nat->Nat->Int}{n k i:Nat}{ys:List V}{x:V}(h:RowsPre H0 T n k i ys H2)(S:Same H2 H3)(hx:RowAt H3 x T n k i):RowsPre H0 T n k (i+1) (ys++[x]) H3:=by
  obtain⟨h1,h2,h3⟩:=h;refine⟨h1.trans S,by rw[Zo,h2];rfl,fun t ht => ?_⟩
  by_cases e:t<i
  . obtain⟨y,e1,e2⟩:=h3 t e
    exact⟨y,by rw[Zg (by omega)];exact e1,e2.mono S⟩
  . have:t=i:=by omega
    subst this;exact⟨x,by rw[Zf (by omega),h2];simp,hx⟩
theorem RowsPre.done{H0 H2:Hp}{T:Nat->Nat->Int}{n k:Nat}{ys:List V}{l:Addr}(h:RowsPre H0 T n k n ys H2)(hl:H2 l=none):Same H0 (upd H2 l (.lst ys))/\RowsAt (upd H2 l (.lst ys)) (.ref l) T n k:=by
  obtain⟨h1,h2,h3⟩:=h;have S:Same H2 (upd H2 l (.lst ys)):=Same.upd (Same.refl _) hl;refine⟨h1.trans S,l,ys,rfl,zc,h2,fun t ht => ?_⟩;obtain⟨y,e1,e2⟩:=h3 t ht;exact⟨y,e1,e2.mono S⟩
structure Gd(K:Fg)(H:Hp)(g:Addr)(rows:List (List Int))(n:Nat):Prop where
  ex:∃as,GridL K H g as rows/\as.length=n
  sq:zaf rows n
  n8:n<=8
theorem Gd.mono{K:Fg}{H H':Hp}{g:Addr}{rows:List (List Int)}{n:Nat}(S:Same H H')(G:Gd K H g rows n):Gd K H' g rows n:=by
  obtain⟨as,h1,h2⟩:=G.ex;exact⟨⟨as,GridL.mono S h1,h2⟩,G.sq,G.n8⟩
theorem wb{K:Fg}{H:Hp}{g:Addr}{rows:List (List Int)}{n s t:Nat}{Q:VK}{E:XK}(G:Gd K H g rows n)(hs:s<n)(ht:t<n)(q:Q (.int (zz rows s t)) H):tz K [.ref g,.int s,.int t] H Q E:=by
  obtain⟨as,h1,h2⟩:=G.ex;obtain⟨ns,e1,l1⟩:=G.sq t ht;exact⟨g,as,rows,s,t,ns,_,_,rfl,h1,e1,kn e1 (by omega),kn e1 (by omega),q⟩
def o5:Sp:=fun vs H Q _=>∃(p:Addr) (i:Int) (l:V),vs=[.ref p]/\H p=some (.tup [.int i,l])/\Q (.int i) H
def im:Sp:=fun vs H Q _=>∃(p:Addr) (i:Int) (l:V),vs=[.ref p]/\H p=some (.tup [.int i,l])/\Q l H
def spOne(K:Fg):Sp:=fun vs H Q _=>∃(g:Addr) (rows:List (List Int)) (n s:Nat),vs=[.ref g,.int s]/\Gd K H g rows n/\s<n/\∀H' v,Same H H'->RowAt H' v (zz rows) n 1 s->Q v H'
def zdb(K:Fg):Sp:=fun vs H Q _=>∃(g:Addr) (rows:List (List Int)) (v:V) (n k s t:Nat),vs=[.ref g,v,.int t]/\Gd K H g rows n/\RowAt H v (zz rows) n k s/\t<n/\s<n/\0<k/\k<=100 /\
  ∀H' x ws,Same H H'->WalkAt H' x (zz rows) s ws->Least (zz rows) n (k+1) s t ws->Q x H'
def zgj(K:Fg):Sp:=fun vs H Q _=>∃(g:Addr) (rows:List (List Int)) (v:V) (n k s:Nat),vs=[.ref g,v]/\Gd K H g rows n/\RowAt H v (zz rows) n k s/\s<n/\0<k/\k<=100 /\
  ∀H' v',Same H H'->RowAt H' v' (zz rows) n (k+1) s->Q v' H'
def a9:Sp:=fun vs H Q _=>∃(T:Nat->Nat->Int) (v:V) (n k:Nat),vs=[v]/\RowsAt H v T n k/\0<k/\n<=8/\(∀H',Same H H'->NoNeg T n k->Q .non H') /\
  ∀H' s ws l,Same H H'->H' l=some (.lst ((nI ((s::ws).dropLast)).map V.int))->s<n->Wk n k s s ws->wk T s ws<0->Q (.ref l) H'
def zbt(K:Fg):Sp:=fun vs H Q _=>∃(g:Addr) (rows:List (List Int)) (n:Nat),vs=[.ref g]/\Gd K H g rows n/\0<n/\(∀H',Same H H'->(∀j,j<=n->NoNeg (zz rows) n j)->Q .non H') /\
  ∀H' l c,Same H H'->H' l=some (.lst ((nI c).map V.int))->RingA (zz rows) n c->Q (.ref l) H'
section
variable{P:Program}{w:World}{K:Fg}{mg:Str->Option Value}{base:Heap}
theorem xg (D:ze K mg "total_of" o0 ["walk"]):FnAt P w K mg base "total_of" 1 ["walk"] o5:=by
  refine FnAt.of D zb9 (fun vs H Q E h => ?_) (fun f cdv A outer s H vs Q E hr h => ?_)
  . obtain⟨p,i,l,rfl,_⟩:=h
    rfl
  . obtain⟨p,i,l,rfl,hp,q⟩:=h
    refine⟨_,(@zi _ _ _ (@zm _ _ _ _ (@z0 _ _ _ _ _ _ _ ym (pv 0) (@zd _ _ _ _) (fun _ _=>rfl)))),?_⟩;rw[show start ["walk"] [V.ref p]=[some (V.ref p)] from rfl];simp only[zg,zf,↓reduceIte];exact⟨_,.of hp,_,z7 (j:=0) rfl,q⟩
theorem sj (D:ze K mg "words_of" oa ["walk"]):FnAt P w K mg base "words_of" 1 ["walk"] im:=by
  refine FnAt.of D zb2 (fun vs H Q E h => ?_) (fun f cdv A outer s H vs Q E hr h => ?_)
  . obtain⟨p,i,l,rfl,_⟩:=h
    rfl
  . obtain⟨p,i,l,rfl,hp,q⟩:=h
    refine⟨_,(@zi _ _ _ (@zm _ _ _ _ (@z0 _ _ _ _ _ _ _ ym (pv 0) (@zd _ _ _ _) (fun _ _=>rfl)))),?_⟩;rw[show start ["walk"] [V.ref p]=[some (V.ref p)] from rfl];simp only[zg,zf,↓reduceIte];exact⟨_,.of hp,_,z7 (j:=1) rfl,q⟩
theorem vq (B:Bt mg) (uf:FnAt P w K mg base "turn" 1 ["grid", "s", "t"] (tz K)) (D:ze K mg "walks_of_one_turn" wo ["grid", "s"]):FnAt P w K mg base "walks_of_one_turn" 2 ["grid", "s"] (spOne K):=by
  refine FnAt.of D k7 (fun vs H Q E h => ?_) (fun f cdv A outer s H vs Q E hr h => ?_)
  . obtain⟨g,rows,n,s,rfl,_⟩:=h
    rfl
  . obtain⟨g,rows,n,s,rfl,G,hs,q⟩:=h
    have n8:=G.n8;refine⟨_,(@zi _ _ _ (@zm _ _ _ _ (yh ["t"] ["grid", "s"] rfl (yv rfl B.range (za (zr zw rfl B.len yd (za (pv 0) (@zb _))) (@zb _))) (fun _=>(zn (i:=0) (show(["t", "grid", "s"]:List Str).Nodup by decide +kernel) rfl (Or.inl rfl))) (fun _=>(@z8 _)) (fun _=>(@y6 _ _ _ _ _ (@za _ _ _ _ _ (zh uf (hr.mono (by decide)) rfl (@za _ _ _ _ _ (pv 1) (@za _ _ _ _ _ (pv 2) (@za _ _ _ _ _ (pv 0) (@zb _) (yo nofun)) (yo nofun)) (yo nofun))) (@za _ _ _ _ _ (@xp _ _ _ _ (@za _ _ _ _ _ (pv 2) (@za _ _ _ _ _ (pv 0) (@zb _) (yo nofun)) (yo nofun))) (@zb _) (yo nofun)) (yo nofun)))) rfl (by decide +kernel) rfl rfl))),?_⟩;rw[show start ["grid", "s"] [V.ref g,V.int s]=[some (V.ref g),some (V.int s)] from rfl];simp only[zg,zf,↓reduceIte];obtain⟨as,h1,h2⟩:=G.ex;refine⟨_,.inl h1.1,?_⟩;rw[Za,h2];refine⟨by omega,by omega,fun d => ?_⟩;rw[Zw];refine x8 (RowPre H (zz rows) n 1 s) ⟨Same.refl _,rfl,fun t ht=>by omega⟩ ?_ ?_ ?_
    . rintro i ys H' hi h
      rw[h.2.1];exact Zd hi (Zd n8 (by decide))
    . rintro i ys H' hi h
      simp only[zg,zf,↓reduceIte];refine wb (G.mono h.1) hs hi ?_;refine⟨by show 2<=sizeLine;decide,fun l hl=>⟨by show 2<=sizeLine;decide,fun p hp => ?_⟩⟩;have S1:Same H' (upd H' l (.lst [V.int s,V.int i])):=Same.upd (Same.refl _) hl;have S2:Same (upd H' l (.lst [V.int s,V.int i])) (upd (upd H' l (.lst [V.int s,V.int i])) p (.tup [V.int (zz rows s i),V.ref l])):=Same.upd (Same.refl _) hp;refine h.snoc (ws:=[i]) (S1.trans S2) ⟨p,l,rfl,?_,S2 _ _ zc⟩ (Least.one _ hi);rw[zc]
      show _=some (HO.tup [V.int (zz rows s i+0),V.ref l])
      rw[Int.add_zero]
    . rintro ys H' h l hl
      obtain⟨S,R⟩:=h.done hl;exact q _ _ S R
end
theorem zc7(ws:List Nat)(t:Nat):(nI ws).map V.int++[V.int t]=(nI (ws++[t])).map V.int:=by simp[nI]
theorem zhr(xs:List V):cutV xs none (some (-1))=xs.dropLast:=by
  unfold cutV;rw[HT.sIx_none,List.drop_zero,Nat.sub_zero,YO]
  congr 1
  unfold HT.sIx;simp;omega
theorem zce(ws:List Nat):((nI ws).map V.int).dropLast=(nI ws.dropLast).map V.int:=by
  rw[YO,YO,nI,nI,<-YX,<-YX];simp
theorem zfc{H:Hp}{T:Nat->Nat->Int}{n k s:Nat}{xs:List V}(h:∀t,t<n->∃x ws,xs[t]? = some x/\WalkAt H x T s ws/\Least T n k s t ws) :
    ∃f:Nat->List Nat,∀t,t<n->Least T n k s t (f t)/\∀x,xs[t]? = some x->WalkAt H x T s (f t):=by
  refine⟨fun t=>if ht:t<n then Classical.choose (Classical.choose_spec (h t ht)) else [],fun t ht => ?_⟩;have z:=Classical.choose_spec (Classical.choose_spec (h t ht));simp only[ht,dif_pos];refine⟨z.2.2,fun x hx => ?_⟩;rw[z.1]at hx;cases hx;exact z.2.1
def zdq(K:Fg):Sp:=fun vs H Q _=>∃(g l:Addr) (rows:List (List Int)) (ts:List Int) (n t:Nat),vs=[.ref g,.ref l,.int t]/\Gd K H g rows n/\0<n/\SqL K H l (ts.map V.int)/\ts.length=n/\t<n/\∀H' m,Same H H'->Q (.int m) H'
def zey(H:Hp)(i:Nat)(ys:List V)(H':Hp):Prop:=Same H H'/\∃ns:List Int,ns.length=i/\ys=ns.map V.int
def HonA(rows:List (List Int))(ps:List Int)(n:Nat):Prop:=∀t s:Nat,t<n->s<n->gcA rows t s-gcA rows t t<=ps.getD s 0-ps.getD t 0
def spHas(K:Fg):Sp:=fun vs H Q _=>∃(g:Addr) (rows:List (List Int)) (n:Nat),vs=[.ref g]/\Gd K H g rows n/\0<n/\∀H' (b:Bool),Same H H'->(b=true->∃ps:List Int,HonA rows ps n)->Q (.bl b) H'
def PvTotH(H:Hp)(g:Addr)(n:Nat)(i:Nat)(σ:L2.St)(H':Hp):Prop:=Same H H'/\∃(l:Addr) (ts:List Int) (v:Option V),H' l=some (.lst (ts.map V.int))/\ts.length=n/\σ=[some (.ref g),some (.ref l),v]
theorem zdc{rows:List (List Int)}{ps:List Int}{n:Nat}(h:HonA rows ps n):∀(ws:List Nat) (s:Nat),s<n->(∀x∈ws,x<n)->ps.getD (lst s ws) 0-ps.getD s 0<=wk (zz rows) s ws
  | [],s,_,_=>by show ps.getD s 0-ps.getD s 0<=0;omega
  | w::ws,s,hs,hw=>by
    have hw':=hw w ZA;have h1:=zdc h ws w hw' fun x hx=>hw x (Zv _ hx)
    have h2:=h w s hw' hs
    show ps.getD (lst w ws) 0-ps.getD s 0<=zz rows s w+wk (zz rows) w ws
    unfold zz;unfold zz at h1;omega
theorem HonA.no{rows:List (List Int)}{ps:List Int}{n:Nat}(h:HonA rows ps n)(j:Nat):NoNeg (zz rows) n j:=fun s ws hs W=>by
  have:=zdc h ws s hs W.lt;rw[W.to]at this;omega
section
variable{P:Program}{w:World}{K:Fg}{mg:Str->Option Value}{base:Heap}
theorem rj (B:Bt mg) (uf:FnAt P w K mg base "turn" 1 ["grid", "s", "t"] (tz K)) (xg:FnAt P w K mg base "total_of" 1 ["walk"] o5) (D:ze K mg "least_to" rk ["grid", "walks", "t"]):FnAt P w K mg base "least_to" 3 ["grid", "walks", "t"] (zdb K):=by
  refine FnAt.of D sc_least_to (fun vs H Q E h => ?_) (fun f cdv A outer s H vs Q E hr h => ?_)
  . obtain⟨g,rows,v,n,k,s,t,rfl,_⟩:=h
    rfl
  . obtain⟨g,rows,v,n,k,s,t,rfl,G,R,ht,hs,hk,hk2,q⟩:=h
    have n8:=G.n8;obtain⟨r,xs,rfl,hr1,hlen,hall⟩:=R;obtain⟨fw,hfw⟩:=zfc hall;refine⟨_,(@zj _ _ _ _ _ (vm (i:=3) ["total", "words"] ["grid", "walks", "t", "longer"] sc_least_to.nd rfl rfl rfl (@yb _ _ _ _ (pv 1)) (fun _=>(si rfl (y0 (zn (i:=0) (show(["total", "words", "grid", "walks", "t", "longer"]:List Str).Nodup by decide +kernel) rfl (Or.inl rfl)) (y0 (zn (i:=1) (show(["total", "words", "grid", "walks", "t", "longer"]:List Str).Nodup by decide +kernel) rfl (Or.inl rfl)) (@uk _))))) (fun _=>(@z8 _)) (fun _=>(@y6 _ _ _ _ _ (za (@zk _ _ _ _ _ _ _ _ yn (pv 0) (zh uf (hr.mono (by decide)) rfl (za (pv 2) (za (@z0 _ _ _ _ _ _ _ yc (pv 1) (@zd4 _ _ _ _ _ _ zbd (@zd _ _ _ _)) (fun _ _=>rfl)) (za (pv 4) (@zb _)))))) (za (@zk _ _ _ _ _ _ _ _ j1 (pv 1) (@xp _ _ _ _ (za (pv 4) (@zb _)))) (@zb _))))) rfl (by decide +kernel) rfl rfl rfl) (@zi _ _ _ (@zm _ _ _ _ (zcs xg (hr.mono (by decide)) rfl rfl B.min rfl (za (pv 3) (@zb _)))))),?_⟩;rw[show start ["grid", "walks", "t", "longer"] [V.ref g,V.ref r,V.int t]=[some (V.ref g),some (V.ref r),some (V.int t),none] from rfl];simp only[zg,zf,↓reduceIte];refine⟨⟨_,.of hr1⟩,fun d => ?_⟩;refine yf (xs:=xs) (fun i ys H2=>Same H H2/\ys.length=i/\∀u,u<i->∃x,ys[u]? = some x/\WalkAt H2 x (zz rows) s (fw u++[t])) ⟨Same.refl _,rfl,fun u hu=>by omega⟩ ?_ ?_ ?_
    . rintro i ys H2 hi ⟨S,hl,_⟩
      exact⟨by rw[hl];rw[hlen]at hi;exact Zd hi (Zd n8 (by decide)),S.seq (.of hr1)⟩
    . rintro i x ys H2 hx ⟨S,hl,hy⟩
      have hi:i<n:=by rw[<-hlen];exact(Zc.mp hx).1
      obtain⟨hL,hW⟩:=hfw i hi;obtain⟨p,l,rfl,hp,hl1⟩:=hW x hx;have hp2:=S _ _ hp;have hl2:=S _ _ hl1;have hto:=hL.w.to;rw[ze4]at hto;simp only[zg,zf,↓reduceIte];refine⟨_,.of hp2,rfl,?_⟩;simp only[zg,zf,↓reduceIte];refine⟨_,.of hl2,_,zcw s (fw i),?_⟩;rw[hto];refine wb (G.mono S) hi ht ?_;simp only[zg,zf,↓reduceIte];refine⟨by show 1<=sizeLine;decide,fun b hb => ?_⟩;have S1:Same H2 (upd H2 b (.lst [V.int t])):=Same.upd (Same.refl _) hb;refine⟨_,S1 _ _ hl2,_,zc,?_,fun c hc=>⟨by show 2<=sizeLine;decide,fun e he => ?_⟩⟩
      . have:=hL.w.len
        simp only[nI,Za,ZN,ZX,this];exact Zd (show k+1+1<=102 by omega) (by decide)
      . have S2:Same (upd H2 b (.lst [V.int t])) (upd (upd H2 b (.lst [V.int t])) c (.lst ((nI (s::fw i)).map V.int++[V.int t]))):=Same.upd (Same.refl _) hc
        have S3:=Same.upd (o:=.tup [V.int (wk (zz rows) s (fw i)+zz rows i t),V.ref c]) (Same.refl (upd (upd H2 b (.lst [V.int t])) c (.lst ((nI (s::fw i)).map V.int++[V.int t])))) he;refine⟨S.trans (S1.trans (S2.trans S3)),by simp[hl],fun u hu => ?_⟩
        by_cases eu:u<i
        . obtain⟨x,e1,e2⟩:=hy u eu
          exact⟨x,by rw[Zg (by omega)];exact e1,e2.mono (S1.trans (S2.trans S3))⟩
        . have:u=i:=by omega
          subst this;refine⟨.ref e,by rw[Zf (by omega),hl];simp,e,c,rfl,?_,?_⟩
          . rw[zc,vo,hL.w.to]
          . exact S3 _ _ (by rw[zc,zc7];rfl)
    . rintro ys H2 ⟨S,hl,hy⟩ lo hlo
      rw[hlen]at hl hy;have S1:Same H2 (upd H2 lo (.lst ys)):=Same.upd (Same.refl _) hlo;refine⟨ys,.of zc,by omega,fun u=>wk (zz rows) s (fw u++[t]),fun i x hx => ?_,fun i x hx hm => ?_⟩
      . have hi:i<n:=by rw[<-hl];exact(Zc.mp hx).1
        obtain⟨x',e1,p,l,e2,hp,hl1⟩:=hy i hi;rw[hx]at e1;cases e1;subst e2;exact⟨p,_,_,rfl,S1 _ _ hp,rfl,rfl⟩
      . have hi:i<n:=by rw[<-hl];exact(Zc.mp hx).1
        obtain⟨x',e1,hw⟩:=hy i hi;rw[hx]at e1;cases e1;refine q _ _ _ (S.trans S1) (hw.mono S1) (Least.more ht fw (fun u hu=>(hfw u hu).1) hk hi fun u hu => ?_);have z:wk (zz rows) s (fw i++[t])<=wk (zz rows) s (fw u++[t]):=(hm u (by omega)).1;rw[vo,vo,(hfw i hi).1.w.to,(hfw u hu).1.w.to]at z;exact z
theorem vz (B:Bt mg) (rj:FnAt P w K mg base "least_to" 3 ["grid", "walks", "t"] (zdb K)) (D:ze K mg "lengthened" ue ["grid", "walks"]):FnAt P w K mg base "lengthened" 4 ["grid", "walks"] (zgj K):=by
  refine FnAt.of D jt (fun vs H Q E h => ?_) (fun f cdv A outer s H vs Q E hr h => ?_)
  . obtain⟨g,rows,v,n,k,s,rfl,_⟩:=h
    rfl
  . obtain⟨g,rows,v,n,k,s,rfl,G,R,hs,hk,hk2,q⟩:=h
    have n8:=G.n8;refine⟨_,(@zi _ _ _ (@zm _ _ _ _ (yh ["t"] ["grid", "walks"] rfl (yv rfl B.range (za (zr zw rfl B.len yd (za (pv 0) (@zb _))) (@zb _))) (fun _=>(zn (i:=0) (show(["t", "grid", "walks"]:List Str).Nodup by decide +kernel) rfl (Or.inl rfl))) (fun _=>(@z8 _)) (fun _=>(zh rj (hr.mono (by decide)) rfl (za (pv 1) (za (pv 2) (za (pv 0) (@zb _)))))) rfl (by decide +kernel) rfl rfl))),?_⟩;rw[show start ["grid", "walks"] [V.ref g,v]=[some (V.ref g),some v] from rfl];simp only[zg,zf,↓reduceIte];obtain⟨as,h1,h2⟩:=G.ex;refine⟨_,.inl h1.1,?_⟩;rw[Za,h2];refine⟨by omega,by omega,fun d => ?_⟩;rw[Zw];refine x8 (RowPre H (zz rows) n (k+1) s) ⟨Same.refl _,rfl,fun t ht=>by omega⟩ ?_ ?_ ?_
    . rintro i ys H' hi h
      rw[h.2.1];exact Zd hi (Zd n8 (by decide))
    . rintro i ys H' hi h
      simp only[zg,zf,↓reduceIte];exact⟨g,rows,v,n,k,s,i,rfl,G.mono h.1,R.mono h.1,hi,hs,hk,hk2,fun H2 x ws S1 hw hl=>h.snoc S1 hw hl⟩
    . rintro ys H' h l hl
      obtain⟨S,R⟩:=h.done hl;exact q _ _ S R
theorem vp (B:Bt mg) (xg:FnAt P w K mg base "total_of" 1 ["walk"] o5) (sj:FnAt P w K mg base "words_of" 1 ["walk"] im) (D:ze K mg "closed_below_zero" wp ["rows"]):FnAt P w K mg base "closed_below_zero" 2 ["rows"] a9:=by
  refine FnAt.of D sc_closed_below_zero (fun vs H Q E h => ?_) (fun f cdv A outer s H vs Q E hr h => ?_)
  . obtain⟨T,v,n,k,rfl,_⟩:=h
    rfl
  . obtain⟨T,v,n,k,rfl,⟨r,xs,rfl,hr1,hlen,hall⟩,hk,n8,q0,q1⟩:=h
    refine⟨_,(@zj _ _ _ _ _ (xc PassesOwn.never rfl (j7 rfl B.enumerate (za (pv 0) (@zb _))) (si rfl (y0 (zn (i:=1) sc_closed_below_zero.nd rfl (Or.inl rfl)) (y0 (zn (i:=2) sc_closed_below_zero.nd rfl (Or.inl rfl)) (@uk _)))) (@zi _ _ _ (@yu _ _ _ _ _ _ _ _ (@yp _ _ _ _ _ _ _ _ lq (zh xg (hr.mono (by decide)) rfl (za (@z0 _ _ _ _ _ _ _ yc (pv 2) (pv 1) (fun _ _=>rfl)) (@zb _))) (@zd _ _ _ _) (yk _)) (@zi _ _ _ (@zm _ _ _ _ (@xt _ _ _ _ _ _ _ _ _ _ kr (zh sj (hr.mono (by decide)) rfl (za (@z0 _ _ _ _ _ _ _ yc (pv 2) (pv 1) (fun _ _=>rfl)) (@zb _))) (@we _) (@xy _ _ _ (@zd4 _ _ _ _ _ _ zbd (@zd _ _ _ _)))))) (@yg _)))) (@zi _ _ _ (@zm _ _ _ _ (@ph _ _ _)))),?_⟩;rw[show start ["rows", "s", "walks"] [V.ref r]=[some (V.ref r),none,none] from rfl];simp only[zg,zf,↓reduceIte];refine⟨⟨_,.of hr1⟩,?_⟩;refine zia (xs:=xs) (fun i σ H2=>Same H H2/\(∃v1 v2,σ=[some (.ref r),v1,v2])/\∀s,s<i->∀ws,Wk n k s s ws->0<=wk T s ws) ⟨Same.refl _,⟨_,_,rfl⟩,fun s hs=>by omega⟩ ?_ ?_ ?_
    . rintro i σ H2 hi ⟨S,_,_⟩
      exact S.seq (.of hr1)
    . rintro i x σ H2 U hx hU ⟨S,⟨v1,v2,rfl⟩,no⟩
      have hi:i<n:=by rw[<-hlen];exact(Zc.mp hx).1
      obtain⟨x',e1,R⟩:=hall i hi;rw[hx]at e1;cases e1;obtain⟨r2,zs,rfl,hr2,hl2,hz⟩:=R;obtain⟨y,ws,e2,hw,hL⟩:=hz i hi;obtain⟨p,l,rfl,hp,hl1⟩:=hw;have SU:Same H (upd H2 U (.tup [V.int i,V.ref r2])):=Same.upd S (S.free hU);simp only[zg,zf,↓reduceIte];refine⟨_,.of zc,rfl,?_⟩;simp only[zg,zf,↓reduceIte];refine⟨_,.of (SU _ _ hr2),_,z7 e2,p,_,_,rfl,SU _ _ hp,?_⟩;simp only[zg,zf,↓reduceIte];refine ite2 (fun h => ?_) (fun h => ?_)
      . refine⟨_,.of (SU _ _ hr2),_,z7 e2,p,_,_,rfl,SU _ _ hp,?_⟩
        simp only[zg,zf,↓reduceIte];refine⟨_,.of (SU _ _ hl1),fun b hb => ?_⟩;refine q1 _ i ws b (Same.upd SU (SU.free hb)) ?_ hi hL.w (of_decide_eq_true h);rw[zc,show(-1:Int) = -1 from rfl,zhr,zce]
      . refine⟨SU,fun s hs us hu => ?_⟩
        by_cases e:s<i
        . exact no s e us hu
        . have:s=i:=by omega
          subst this;have z:=hL.least us hu;have:¬wk T s ws<0:=fun y=>h (decide_eq_true y)
          omega
    . rintro σ H2 ⟨S,⟨v1,v2,rfl⟩,no⟩
      simp only[zg,zf,↓reduceIte];exact q0 _ S fun s ws hs hw=>no s (by omega) ws hw
theorem rq (B:Bt mg) (uf:FnAt P w K mg base "turn" 1 ["grid", "s", "t"] (tz K)) (D:ze K mg "after_a_turn" ug ["grid", "totals", "t"]):FnAt P w K mg base "after_a_turn" 2 ["grid", "totals", "t"] (zdq K):=by
  refine FnAt.of D f7 (fun vs H Q E h => ?_) (fun f cdv A outer s H vs Q E hr h => ?_)
  . obtain⟨g,l,rows,ts,n,t,rfl,_⟩:=h
    rfl
  . obtain⟨g,l,rows,ts,n,t,rfl,G,hn,hl,lt,ht,q⟩:=h
    have n8:=G.n8;refine⟨_,(@zi _ _ _ (@zm _ _ _ _ (zr (zhf rfl) rfl B.min zbl (za (yh ["s", "total"] ["grid", "totals", "t"] rfl (j7 rfl B.enumerate (za (pv 1) (@zb _))) (fun _=>(si rfl (y0 (zn (i:=0) (show(["s", "total", "grid", "totals", "t"]:List Str).Nodup by decide +kernel) rfl (Or.inl rfl)) (y0 (zn (i:=1) (show(["s", "total", "grid", "totals", "t"]:List Str).Nodup by decide +kernel) rfl (Or.inl rfl)) (@uk _))))) (fun _=>(@z8 _)) (fun _=>(@zk _ _ _ _ _ _ _ _ yn (pv 1) (zh uf (hr.mono (by decide)) rfl (za (pv 2) (za (pv 0) (za (pv 4) (@zb _))))))) rfl (by decide +kernel) rfl rfl) (@zb _))))),?_⟩;rw[show start ["grid", "totals", "t"] [V.ref g,V.ref l,V.int t]=[some (V.ref g),some (V.ref l),some (V.int t)] from rfl];simp only[zg,zf,↓reduceIte];refine⟨⟨_,hl⟩,fun d => ?_⟩;refine zgy (xs:=ts.map V.int) (zey H) ⟨Same.refl _,[],rfl,rfl⟩ ?_ ?_ ?_
    . rintro i ys H2 hi ⟨S,ns,ln,rfl⟩
      rw[Za]at hi;exact⟨by rw[Za,ln];exact Zd hi (Zd (show ts.length<=8 by omega) (by decide)),S.seq hl⟩
    . rintro i x ys H2 T hx hT ⟨S,ns,ln,rfl⟩
      obtain⟨y,hy,rfl⟩:=yl hx;have hi:i<n:=by have:=(Zc.mp hy).1;omega
      have S1:Same H2 (upd H2 T (.tup [V.int i,V.int y])):=Same.upd (Same.refl _) hT;simp only[zg,zf,↓reduceIte];refine⟨_,.of zc,rfl,?_⟩;generalize upd H2 T (.tup [V.int i,V.int y])=H3 at *;simp only[zg,zf,↓reduceIte];refine wb (G.mono (S.trans S1)) hi ht ?_;simp only[zg,zf,↓reduceIte];exact⟨S.trans S1,ns++[y+zz rows i t],by simp[ln],by simp⟩
    . rintro ys H2 ⟨S,ns,ln,rfl⟩ p hp
      rw[Za,lt]at ln;exact⟨_,.of zc,by omega,fun m _ _=>q _ m (S.trans (Same.upd (Same.refl _) hp))⟩
theorem nk (B:Bt mg) (rq:FnAt P w K mg base "after_a_turn" 2 ["grid", "totals", "t"] (zdq K)) (ma:FnAt P w K mg base "first_gain" 3 ["grid", "pays"] (spFG K)) (D:ze K mg "has_honest" rp ["grid"]):FnAt P w K mg base "has_honest" 4 ["grid"] (spHas K):=by
  refine FnAt.of D sc_has_honest (fun vs H Q E h => ?_) (fun f cdv A outer s H vs Q E hr h => ?_)
  . obtain⟨g,rows,n,rfl,_⟩:=h
    rfl
  . obtain⟨g,rows,n,rfl,G,hn,q⟩:=h
    have n8:=G.n8;refine⟨_,(@zj _ _ _ _ _ (zy (i:=1) sc_has_honest.nd rfl (Or.inr rfl) (yh ["row"] ["grid", "totals", "size"] rfl (@yb _ _ _ _ (pv 0)) (fun _=>(zn (i:=0) (show(["row", "grid", "totals", "size"]:List Str).Nodup by decide +kernel) rfl (Or.inl rfl))) (fun _=>(@z8 _)) (fun _=>(@zd _ _ _ _)) rfl (by decide +kernel) rfl rfl)) (@zj _ _ _ _ _ (xc PassesOwn.never rfl (j6 rfl B.range (za (@zd _ _ _ _) (za (@zk _ _ _ _ _ _ _ _ yn (zr zw rfl B.len yd (za (pv 0) (@zb _))) (@zd _ _ _ _)) (@zb _)))) (zn (i:=2) sc_has_honest.nd rfl (Or.inl rfl)) (@zi _ _ _ (zy (i:=1) sc_has_honest.nd rfl (Or.inr rfl) (yh ["t"] ["grid", "totals", "size"] rfl (yv rfl B.range (za (zr zw rfl B.len yd (za (pv 0) (@zb _))) (@zb _))) (fun _=>(zn (i:=0) (show(["t", "grid", "totals", "size"]:List Str).Nodup by decide +kernel) rfl (Or.inl rfl))) (fun _=>(@z8 _)) (fun _=>(zh rq (hr.mono (by decide)) rfl (za (pv 1) (za (pv 2) (za (pv 0) (@zb _)))))) rfl (by decide +kernel) rfl rfl)))) (@zi _ _ _ (@zm _ _ _ _ (@tw _ _ _ _ _ _ _ _ op_isN (zh ma (hr.mono (by decide)) rfl (za (pv 0) (za (pv 1) (@zb _)))) (@ph _ _ _) (yk _)))))),?_⟩;rw[show start ["grid", "totals", "size"] [V.ref g]=[some (V.ref g),none,none] from rfl];simp only[zg,zf,↓reduceIte];obtain⟨as,h1,h2⟩:=G.ex;refine⟨⟨_,h1.1⟩,fun d => ?_⟩;refine yf (xs:=as.map V.ref) (zey H) ⟨Same.refl _,[],rfl,rfl⟩ ?_ ?_ ?_
    . rintro i ys H2 hi ⟨S,ns,ln,rfl⟩
      rw[Za,h2]at hi;exact⟨by rw[Za,ln];exact Zd hi (Zd n8 (by decide)),S.seq h1.1⟩
    . rintro i x ys H2 hx ⟨S,ns,ln,rfl⟩
      simp only[zg,zf,↓reduceIte];exact⟨S,ns++[0],by simp[ln],by simp⟩
    . rintro ys H2 ⟨S,ns,ln,rfl⟩ p hp
      rw[Za,h2]at ln;have S1:Same H (upd H2 p (.lst (ns.map V.int))):=S.trans (Same.upd (Same.refl _) hp);have p1:upd H2 p (.lst (ns.map V.int)) p=some (.lst (ns.map V.int)):=zc;generalize upd H2 p (.lst (ns.map V.int))=H3 at *;refine⟨_,.inl (S1.seq h1.1),?_⟩;rw[Za,h2];refine⟨by omega,by omega,by omega,by omega,?_⟩;rw[show((n:Int)+1-2).toNat=n-1 by omega];refine xx (PvTotH H g n) ⟨S1,p,ns,_,p1,ln,rfl⟩ ?_ ?_
      . rintro i σ H4 hi ⟨S4,p4,ts,v,hp4,lt,rfl⟩
        simp only[zg,zf,↓reduceIte];refine⟨_,.inl (S4.seq h1.1),?_⟩;rw[Za,h2];refine⟨by omega,by omega,fun d2 => ?_⟩;rw[Zw];refine x8 (zey H4) ⟨Same.refl _,[],rfl,rfl⟩ ?_ ?_ ?_
        . rintro j ys H5 hj ⟨S5,ms,lm,rfl⟩
          rw[Za,lm];exact Zd hj (Zd n8 (by decide))
        . rintro j ys H5 hj ⟨S5,ms,lm,rfl⟩
          simp only[zg,zf,↓reduceIte];exact⟨g,p4,rows,ts,n,j,rfl,G.mono (S4.trans S5),hn,.of (S5 _ _ hp4),lt,hj,fun H6 m S6=>⟨S5.trans S6,ms++[m],by simp[lm],by simp⟩⟩
        . rintro ys H5 ⟨S5,ms,lm,rfl⟩ p5 hp5
          exact⟨S4.trans (S5.trans (Same.upd (Same.refl _) hp5)),p5,ms,_,zc,lm,rfl⟩
      . rintro σ H4 ⟨S4,p4,ts,v,hp4,lt,rfl⟩
        simp only[zg,zf,↓reduceIte];refine⟨g,p4,as,rows,ts,n,rfl,(GridL.mono S4 h1),h2,.of hp4,lt,n8,G.sq,fun h => ?_,fun t s h l hl => ?_⟩
        . exact q H4 true S4 fun _=>⟨ts,fun t s ht hs=>by
            have:=h t s ht hs;unfold mx at this
            omega⟩
        . exact q _ false (S4.trans (Same.upd (Same.refl _) hl)) fun z=>by cases z
theorem ie (B:Bt mg) (nk:FnAt P w K mg base "has_honest" 4 ["grid"] (spHas K)) (vq:FnAt P w K mg base "walks_of_one_turn" 2 ["grid", "s"] (spOne K)) (vz:FnAt P w K mg base "lengthened" 4 ["grid", "walks"] (zgj K)) (vp:FnAt P w K mg base "closed_below_zero" 2 ["rows"] a9)
    (D:ze K mg "ring" d6 ["grid"]):FnAt P w K mg base "ring" 5 ["grid"] (zbt K):=by
  refine FnAt.of D sc_ring (fun vs H Q E h => ?_) (fun f cdv A outer s H vs Q E hr h => ?_)
  . obtain⟨g,rows,n,rfl,_⟩:=h
    rfl
  . obtain⟨g,rows,n,rfl,G0,hn,q00,q10⟩:=h
    have n8:=G0.n8;refine⟨_,(@zj _ _ _ _ _ (@yu _ _ _ _ _ _ _ _ (wm (zh nk (hr.mono (by decide)) rfl (za (pv 0) (@zb _)))) (@zi _ _ _ (@zm _ _ _ _ (@ph _ _ _))) (@yg _)) (@zj _ _ _ _ _ (vm (i:=1) ["s"] ["grid", "rows", "size", "found"] sc_ring.nd rfl rfl rfl (yv rfl B.range (za (zr zw rfl B.len yd (za (pv 0) (@zb _))) (@zb _))) (fun _=>(zn (i:=0) (show(["s", "grid", "rows", "size", "found"]:List Str).Nodup by decide +kernel) rfl (Or.inl rfl))) (fun _=>(@z8 _)) (fun _=>(zh vq (hr.mono (by decide)) rfl (za (pv 1) (za (pv 0) (@zb _))))) rfl (by decide +kernel) rfl rfl rfl) (@zj _ _ _ _ _ (xc PassesOwn.never rfl (j6 rfl B.range (za (@zd _ _ _ _) (za (@zk _ _ _ _ _ _ _ _ yn (zr zw rfl B.len yd (za (pv 0) (@zb _))) (@zd _ _ _ _)) (@zb _)))) (zn (i:=2) sc_ring.nd rfl (Or.inl rfl)) (@zj _ _ _ _ _ (vm (i:=1) ["walks"] ["grid", "rows", "size", "found"] sc_ring.nd rfl rfl rfl (@yb _ _ _ _ (pv 1)) (fun _=>(zn (i:=0) (show(["walks", "grid", "rows", "size", "found"]:List Str).Nodup by decide +kernel) rfl (Or.inl rfl))) (fun _=>(@z8 _)) (fun _=>(zh vz (hr.mono (by decide)) rfl (za (pv 1) (za (pv 0) (@zb _))))) rfl (by decide +kernel) rfl rfl rfl) (@zj _ _ _ _ _ (zy (i:=3) sc_ring.nd rfl (Or.inl rfl) (zh vp (hr.mono (by decide)) rfl (za (pv 1) (@zb _)))) (@zi _ _ _ (@yu _ _ _ _ _ _ _ _ (@yp _ _ _ _ _ _ _ _ cq (pv 3) (@ph _ _ _) (yk _)) (@zi _ _ _ (@zm _ _ _ _ (pv 3))) (@yg _)))))) (@zi _ _ _ (@zm _ _ _ _ (@ph _ _ _)))))),?_⟩;rw[show start ["grid", "rows", "size", "found"] [V.ref g]=[some (V.ref g),none,none,none] from rfl];simp only[zg,zf,↓reduceIte];refine⟨g,rows,n,rfl,G0,hn,fun H0 hb S0 hHon => ?_⟩;refine⟨hb,rfl,ite2 (fun hy => ?_) fun _ => ?_⟩
    . obtain⟨ps,hps⟩:=hHon hy
      exact q00 H0 S0 fun j _=>hps.no j
    have G:=G0.mono S0;have q0:∀H',Same H0 H'->(∀j,j<=n->NoNeg (zz rows) n j)->Q .non H':=fun H' S' h=>q00 H' (S0.trans S') h
    have q1:∀H' l c,Same H0 H'->H' l=some (.lst ((nI c).map V.int))->RingA (zz rows) n c->Q (.ref l) H':=fun H' l c S' h1 h2=>q10 H' l c (S0.trans S') h1 h2
    obtain⟨as,h1,h2⟩:=G.ex;refine⟨_,.inl h1.1,?_⟩;rw[Za,h2];refine⟨by omega,by omega,fun d => ?_⟩;rw[Zw];refine x8 (RowsPre H0 (zz rows) n 1) ⟨Same.refl _,rfl,fun t ht=>by omega⟩ ?_ ?_ ?_
    . rintro i ys H' hi h
      rw[h.2.1];exact Zd hi (Zd n8 (by decide))
    . rintro i ys H' hi h
      simp only[zg,zf,↓reduceIte];exact⟨g,rows,n,i,rfl,G.mono h.1,hi,fun H2 x S1 hR=>h.snoc S1 hR⟩
    . rintro ys H' h l hl
      obtain⟨S,R⟩:=h.done hl;generalize upd H' l (.lst ys)=H1 at *;refine⟨_,.inl (S.seq h1.1),?_⟩;rw[Za,h2];refine⟨by omega,by omega,by omega,by omega,?_⟩;rw[show((n:Int)+1-2).toNat=n-1 by omega];refine xx (fun i σ H2=>Same H0 H2/\(∃v v2 v3,σ=[some (.ref g),some v,v2,v3]/\RowsAt H2 v (zz rows) n (i+1))/\∀j,j<=i+1->NoNeg (zz rows) n j) ⟨S,⟨_,_,_,rfl,R⟩,fun j hj => ?_⟩ ?_ ?_
      . have:j=0\/j=1:=by omega
        rcases this with rfl | rfl
        . exact NoNeg.zero _ _
        . exact NoNeg.one (dz rows) _
      . rintro i σ H2 hi ⟨S2,⟨v,v2,v3,rfl,⟨r,xs,rfl,hr1,hlen,hall⟩⟩,no⟩
        simp only[zg,zf,↓reduceIte];refine⟨⟨_,.of hr1⟩,fun d2 => ?_⟩;refine yf (xs:=xs) (RowsPre H2 (zz rows) n (i+1+1)) ⟨Same.refl _,rfl,fun t ht=>by omega⟩ ?_ ?_ ?_
        . rintro j ys H' hj h
          rw[h.2.1];exact⟨Zd hj (Zd (by omega) (show 8<=sizeLine by decide)),h.1.seq (.of hr1)⟩
        . rintro j x ys H' hx h
          have hj:j<n:=by rw[<-hlen];exact(Zc.mp hx).1
          obtain⟨x',e1,R⟩:=hall j hj;rw[hx]at e1;cases e1;simp only[zg,zf,↓reduceIte];exact⟨g,rows,x,n,i+1,j,rfl,G.mono (S2.trans h.1),R.mono h.1,hj,by omega,by omega,fun H3 v' S3 hR=>h.snoc S3 hR⟩
        . rintro ys H' h l hl
          rw[hlen]at h;obtain⟨S3,R3⟩:=h.done hl;generalize upd H' l (.lst ys)=H3 at *;refine⟨zz rows,.ref l,n,i+2,rfl,R3,by omega,n8,fun H4 S4 hno => ?_,fun H4 s ws b S4 hb hs hw hneg => ?_⟩
          . simp only[zg,zf,↓reduceIte]
            refine⟨S2.trans (S3.trans S4),R3.mono S4,fun j hj => ?_⟩
            by_cases e:j<=i+1
            . exact no j e
            . have:j=i+2:=by omega
              subst this;exact hno
          . simp only[zg,zf,↓reduceIte]
            refine q1 H4 b _ (S2.trans (S3.trans S4)) hb (RingA.of (dz rows) hs hw hneg fun j hj=>no j (by omega))
      . rintro σ H2 ⟨S2,⟨v,v2,v3,rfl,_⟩,no⟩
        simp only[zg,zf,↓reduceIte];exact q0 H2 S2 fun j hj=>no j (by omega)
end
structure Rd(T:Nat->Nat->Int)(b:Nat->Int)(S:Nat->Prop)(n k t:Nat)(e:Int×List Nat):Prop where
  ex:∃s ws,e.2=s::ws/\S s/\s<n/\lst s ws=t/\(∀x∈ws,x<n)/\e.1=b s+wk T s ws/\(s::ws).Nodup/\ws.length<=k
def Low(T:Nat->Nat->Int)(b:Nat->Int)(S:Nat->Prop)(n k t:Nat)(i:Int):Prop:=∀s ws,S s->s<n->lst s ws=t->(∀x∈ws,x<n)->ws.length<=k->i<=b s+wk T s ws
structure Rds(T:Nat->Nat->Int)(b:Nat->Int)(S:Nat->Prop)(n k:Nat)(f:Nat->Int×List Nat):Prop where
  rd:∀t,t<n->Rd T b S n k t (f t)
  low:∀t,t<n->Low T b S n k t (f t).1
theorem zc5{n:Nat}:∀(ws:List Nat) (s:Nat),s<n->(∀x∈ws,x<n)->lst s ws<n
  | [],_,h,_=>h
  | w::ws,_,_,h=>zc5 ws w (h w ZA) fun x hx=>h x (Zv _ hx)
theorem lst_lt{n:Nat}{ws:List Nat}{s:Nat}(hs:s<n)(h:∀x∈ws,x<n):lst s ws<n:=zc5 ws s hs h
theorem back{T:Nat->Nat->Int}{b:Nat->Int}{S:Nat->Prop}{n k i t s:Nat}{ws:List Nat}{m:Int}(no:∀k,NoNeg T n k)(ht:t<n)(hS:S s)(hs:s<n)(hto:lst s ws=i)(hlt:∀x∈ws,x<n)(hk:ws.length<=k)(hl:Low T b S n k t m)(hm:t∈s::ws):m<=b s+wk T s ws+T i t:=by
  have closed:∀C:List Nat,(∀x∈C,x<n)->lst t C=i->0<=wk T t C+T i t:=fun C hC hi=>by
    have:=no (C.length+1) t (C++[t]) ht ⟨by simp,fun x hx=>by
      rcases ZH.mp hx with z | z
      . exact hC x z
      . rw[ZC.mp z];exact ht,x0 _ _ _⟩
    rw[vo,hi]at this;exact this
  rcases ZK.mp hm with z | z
  . subst z
    have h1:=hl t [] hS hs rfl (fun x hx=>nomatch hx) (ZE _);have h2:=closed ws hlt hto;have h3:wk T t []=0:=rfl;omega
  . obtain⟨A,C,rfl⟩:=List.append_of_mem z
    have hA:∀x∈A++[t],x<n:=fun x hx=>hlt x (by
      rcases ZH.mp hx with z | z
      . exact ZW _ z
      . rw[ZC.mp z];simp)
    have h1:=hl s (A++[t]) hS hs (x0 _ _ _) hA (by simp at hk ⊢;omega);rw[ci]at hto;have h2:=closed C (fun x hx=>hlt x (Zu _ (Zv _ hx))) hto;rw[kq];omega
theorem Rds.step{T:Nat->Nat->Int}{b:Nat->Int}{S:Nat->Prop}{n k:Nat}{f f':Nat->Int×List Nat}(no:∀k,NoNeg T n k)(R:Rds T b S n k f)
    (h:∀t,t<n->∃i,i<n/\(∀u,u<n->(f i).1+T i t<=(f u).1+T u t)/\(((f i).1+T i t<(f t).1/\f' t=((f i).1+T i t,(f i).2++[t]))\/((f t).1<=(f i).1+T i t/\f' t=f t))):Rds T b S n (k+1) f':=by
  refine⟨fun t ht => ?_,fun t ht => ?_⟩
  . obtain⟨i,hi,hm,hc⟩:=h t ht
    rcases hc with ⟨hlt,e⟩ | ⟨_,e⟩
    . obtain⟨s,ws,e1,hS,hs,hto,hw,hv,hd,hk⟩:=(R.rd i hi).ex
      have hn:t∉s::ws:=fun z=>by
        have:=back no ht hS hs hto hw hk (R.low t ht) z;omega
      rw[e];refine⟨s,ws++[t],by rw[e1];rfl,hS,hs,x0 _ _ _,fun x hx => ?_,?_,?_,by simp;exact hk⟩
      . rcases ZH.mp hx with z | z
        . exact hw x z
        . rw[ZC.mp z];exact ht
      . show(f i).1+T i t=_
        rw[vo,hto,hv];omega
      . show((s::ws)++[t]).Nodup
        refine Yh.mpr ⟨hd,by simp,fun x hx y hy => ?_⟩;rw[ZC.mp hy]
        rintro rfl
        exact hn hx
    . obtain⟨s,ws,e1,hS,hs,hto,hw,hv,hd,hk⟩:=(R.rd t ht).ex
      rw[e];exact⟨s,ws,e1,hS,hs,hto,hw,hv,hd,by omega⟩
  . obtain⟨i,hi,hm,hc⟩:=h t ht
    have h1:(f' t).1<=(f t).1/\(f' t).1<=(f i).1+T i t:=by
      rcases hc with ⟨hlt,e⟩ | ⟨hlt,e⟩ <;> rw[e]
      . exact⟨by show(f i).1+T i t<=_;omega,Yu _⟩
      . exact⟨Yu _,hlt⟩
    intro s ws hS hs hto hw hk
    by_cases hk':ws.length<=k
    . have:=R.low t ht s ws hS hs hto hw hk'
      omega
    . obtain⟨w,r,rfl⟩:∃w r,ws=w::r:=by
        cases ws with
        | nil=>simp at hk'
        | cons w r=>exact⟨w,r,rfl⟩
      have e1:=v0 r w;have e2:lst w r=t:=hto;rw[e2]at e1;generalize hp:(w::r).dropLast=p at e1;rw[e1]at hw hk ⊢;have hwp:∀x∈p,x<n:=fun x hx=>hw x (ZW _ hx)
      have hu:=lst_lt hs hwp;have q1:=R.low (lst s p) hu s p hS hs rfl hwp (by simp at hk;exact hk);have q2:=hm (lst s p) hu;rw[vo];omega
theorem Rds.honest{T:Nat->Nat->Int}{b:Nat->Int}{S:Nat->Prop}{n k:Nat}{f:Nat->Int×List Nat}(no:∀k,NoNeg T n k)(R:Rds T b S n k f)(hk:n<=k+1){s t:Nat}(hs:s<n)(ht:t<n):(f t).1<=(f s).1+T s t:=by
  obtain⟨s0,ws,e1,hS,hs0,hto,hw,hv,hd,hk2⟩:=(R.rd s hs).ex
  by_cases hm:t∈s0::ws
  . have:=back no ht hS hs0 hto hw hk2 (R.low t ht) hm
    omega
  . have hd2:(s0::(ws++[t])).Nodup:=by
      show((s0::ws)++[t]).Nodup
      refine Yh.mpr ⟨hd,by simp,fun x hx y hy => ?_⟩;rw[ZC.mp hy]
      rintro rfl
      exact hm hx
    have hw2:∀x∈ws++[t],x<n:=fun x hx=>by
      rcases ZH.mp hx with z | z
      . exact hw x z
      . rw[ZC.mp z];exact ht
    have hl:=few hd2 (fun x hx=>by
      rcases ZK.mp hx with z | z
      . rw[z];exact hs0
      . exact hw2 x z)
    have:=R.low t ht s0 (ws++[t]) hS hs0 (x0 _ _ _) hw2 (by simp at hl ⊢;omega);rw[vo,hto]at this;omega
theorem Rds.one{T:Nat->Nat->Int}{b:Nat->Int}{n:Nat}{f:Nat->Int×List Nat}(h:∀t,t<n->f t=(b t,[t])):Rds T b (fun _=>True) n 0 f:=by
  refine⟨fun t ht=>⟨t,[],by rw[h t ht],trivial,ht,rfl,(fun x hx=>nomatch hx),by rw[h t ht];show b t=b t+0;omega,by simp,Zm _⟩,fun t ht s ws _ hs hto hw hk => ?_⟩
  cases ws with
  | nil =>
    have e:s=t:=hto;subst e;rw[h s ht]
    show b s<=b s+0
    omega
  | cons _ _=>simp at hk
theorem Rd.most{T:Nat->Nat->Int}{b:Nat->Int}{S:Nat->Prop}{n k t:Nat}{e:Int×List Nat}(R:Rd T b S n k t e){p:Nat->Int}(hp:∀s t,s<n->t<n->p t-p s<=T s t)(hb:∀s,s<n->S s->p s<=b s):p t<=e.1:=by
  obtain⟨s,ws,e1,hS,hs,hto,hw,hv,hd,hk⟩:=R.ex
  have gen:∀(ws:List Nat) (s:Nat),s<n->(∀x∈ws,x<n)->p (lst s ws)<=p s+wk T s ws:=by
    intro ws
    induction ws with
    | nil=>intro s _ _;show p s<=p s+0;omega
    | cons w r ih =>
      intro s hs hw;have hw':=hw w ZA;have h1:=ih w hw' fun x hx=>hw x (Zv _ hx)
      have h2:=hp s w hs hw'
      show p (lst w r)<=p s+(T s w+wk T w r)
      omega
  have h1:=gen ws s hs hw;have h2:=hb s hs hS;rw[hto]at h1;omega
structure WsL(H:Hp)(xs:List V)(fs:List (Int×List Nat×Addr)):Prop where
  len:xs.length=fs.length
  at':∀(t:Nat) e,fs[t]? = some e->∃p,xs[t]? = some (V.ref p)/\H p=some (.tup [.int e.1,.ref e.2.2])/\H e.2.2=some (.lst ((nI e.2.1).map V.int))
theorem WsL.mono{H H':Hp}{xs:List V}{fs:List (Int×List Nat×Addr)}(S:Same H H')(h:WsL H xs fs):WsL H' xs fs:=⟨h.len,fun t e he=>by
  obtain⟨p,a1,a2,a3⟩:=h.at' t e he
  exact⟨p,a1,S _ _ a2,S _ _ a3⟩⟩
theorem WsL.nil{H:Hp}:WsL H [] []:=⟨rfl,fun t e he=>by simp at he⟩
theorem v6{α:Type}{xs:List α}{x y:α}{t:Nat}(h:(xs++[x])[t]? = some y):xs[t]? = some y\/(t=xs.length/\y=x):=by
  by_cases ht:t<xs.length
  . rw[Zg ht]at h
    exact .inl h
  . have ht':xs.length<=t:=ZD.mp ht
    rw[Zf ht']at h
    have h0:t-xs.length=0:=by
      have:=(Zc.mp h).1;simp at this;omega
    rw[h0]at h;simp at h;exact .inr ⟨by omega,h.symm⟩
theorem vg{α:Type}{xs:List α}{y:α}{t:Nat}(h:xs[t]? = some y):t<xs.length:=(Zc.mp h).1
theorem iy{α:Type}{xs:List α}{x d:α}{t:Nat}(h:xs[t]? = some x):xs.getD t d=x:=by rw[Zk,h];rfl
theorem vj{α:Type}{xs:List α}{t:Nat}(h:t<xs.length):∃y,xs[t]? = some y:=⟨xs[t],by simp[h]⟩
theorem WsL.snoc{H H':Hp}{xs:List V}{fs:List (Int×List Nat×Addr)}{p l:Addr}{i:Int}{ws:List Nat}(h:WsL H xs fs)(S:Same H H')(hp:H' p=some (.tup [.int i,.ref l]))(hl:H' l=some (.lst ((nI ws).map V.int))):WsL H' (xs++[.ref p]) (fs++[(i,ws,l)]):=by
  refine⟨by simp[h.len],fun t e he => ?_⟩
  rcases v6 he with z | ⟨z,rfl⟩
  . obtain⟨q,a1,a2,a3⟩:=h.at' t e z
    exact⟨q,by rw[Zg (vg a1)];exact a1,S _ _ a2,S _ _ a3⟩
  . refine⟨p,?_,hp,hl⟩
    rw[z,Zf (by rw[h.len];exact Zm _),h.len];simp
def Dis(fs:List (Int×List Nat×Addr)):Prop:=∀(t u:Nat) e d,fs[t]? = some e->fs[u]? = some d->e.2.2=d.2.2->t=u
theorem Dis.nil:Dis []:=fun t u e d he=>by simp at he
theorem Dis.snoc{H:Hp}{xs:List V}{fs:List (Int×List Nat×Addr)}{l:Addr}{i:Int}{ws:List Nat}(h:Dis fs)(w:WsL H xs fs)(hl:H l=none):Dis (fs++[(i,ws,l)]):=by
  have old:∀(t:Nat) e,fs[t]? = some e->e.2.2≠l:=fun t e he z=>by
    obtain⟨p,_,_,a3⟩:=w.at' t e he;rw[z,hl]at a3;cases a3
  intro t u e d he hd ee
  rcases v6 he with z | ⟨z,rfl⟩ <;> rcases v6 hd with z' | ⟨z',rfl⟩
  . exact h t u e d z z' ee
  . exact absurd ee (old t e z)
  . exact absurd ee.symm (old u d z')
  . rw[z,z']
def ze2(fs:List (Int×List Nat×Addr)):Prop:=∀(t:Nat) e,fs[t]? = some e->∃a ws,e.2.1=a::ws/\i0 a ws=t/\ws.length<=100
structure zge(T:Nat->Nat->Int)(H:Hp)(fs gs:List (Int×List Nat×Addr))(n:Nat):Prop where
  len:gs.length=n
  dis:Dis gs
  new:∀(t:Nat) e,gs[t]? = some e->H e.2.2=none
  min:∀(t:Nat) e',gs[t]? = some e'->∃i e,fs[i]? = some e/\(∀u d,fs[u]? = some d->e.1+T i t<=d.1+T u t)/\e'.1=e.1+T i t/\e'.2.1=e.2.1++[t]
def zbk(K:Fg):Sp:=fun vs H Q _=>∃(g r:Addr) (rows:List (List Int)) (xs:List V) (fs:List (Int×List Nat×Addr)) (n t:Nat),vs=[.ref g,.ref r,.int t]/\Gd K H g rows n/\H r=some (.lst xs)/\WsL H xs fs/\fs.length=n/\ze2 fs/\t<n /\
  ∀H' p l i e,Same H H'->H l=none->fs[i]? = some e->(∀u d,fs[u]? = some d->e.1+zz rows i t<=d.1+zz rows u t)->H' p=some (.tup [.int (e.1+zz rows i t),.ref l])->H' l=some (.lst ((nI (e.2.1++[t])).map V.int))->Q (.ref p) H'
def zcx(K:Fg):Sp:=fun vs H Q _=>∃(g r:Addr) (rows:List (List Int)) (xs:List V) (fs:List (Int×List Nat×Addr)) (n:Nat),vs=[.ref g,.ref r]/\Gd K H g rows n/\H r=some (.lst xs)/\WsL H xs fs/\fs.length=n/\ze2 fs /\
  ∀H' r' ys gs,Same H H'->H' r'=some (.lst ys)->WsL H' ys gs->zge (zz rows) H fs gs n->Q (.ref r') H'
def zac:Sp:=fun vs H Q _=>∃(p q:Addr) (i j:Int) (l m:V),vs=[.ref p,.ref q]/\H p=some (.tup [.int i,l])/\H q=some (.tup [.int j,m])/\(j<i->Q (.ref q) H)/\(i<=j->Q (.ref p) H)
section
variable{P:Program}{w:World}{K:Fg}{mg:Str->Option Value}{base:Heap}
theorem zd2 (B:Bt mg) (uf:FnAt P w K mg base "turn" 1 ["grid", "s", "t"] (tz K)) (xg:FnAt P w K mg base "total_of" 1 ["walk"] o5) (D:ze K mg "least_to" rk ["grid", "walks", "t"]):FnAt P w K mg base "least_to" 3 ["grid", "walks", "t"] (zbk K):=by
  refine FnAt.of D sc_least_to (fun vs H Q E h => ?_) (fun f cdv A outer s H vs Q E hr h => ?_)
  . obtain⟨g,r,rows,xs,fs,n,t,rfl,_⟩:=h
    rfl
  . obtain⟨g,r,rows,xs,fs,n,t,rfl,G,hr1,W,hlen,hend,ht,q⟩:=h
    have n8:=G.n8;have hxl:=W.len;refine⟨_,(@zj _ _ _ _ _ (vm (i:=3) ["total", "words"] ["grid", "walks", "t", "longer"] sc_least_to.nd rfl rfl rfl (@yb _ _ _ _ (pv 1)) (fun _=>(si rfl (y0 (zn (i:=0) (show(["total", "words", "grid", "walks", "t", "longer"]:List Str).Nodup by decide +kernel) rfl (Or.inl rfl)) (y0 (zn (i:=1) (show(["total", "words", "grid", "walks", "t", "longer"]:List Str).Nodup by decide +kernel) rfl (Or.inl rfl)) (@uk _))))) (fun _=>(@z8 _)) (fun _=>(@y6 _ _ _ _ _ (za (@zk _ _ _ _ _ _ _ _ yn (pv 0) (zh uf (hr.mono (by decide)) rfl (za (pv 2) (za (@z0 _ _ _ _ _ _ _ yc (pv 1) (@zd4 _ _ _ _ _ _ zbd (@zd _ _ _ _)) (fun _ _=>rfl)) (za (pv 4) (@zb _)))))) (za (@zk _ _ _ _ _ _ _ _ j1 (pv 1) (@xp _ _ _ _ (za (pv 4) (@zb _)))) (@zb _))))) rfl (by decide +kernel) rfl rfl rfl) (@zi _ _ _ (@zm _ _ _ _ (zcs xg (hr.mono (by decide)) rfl rfl B.min rfl (za (pv 3) (@zb _)))))),?_⟩;rw[show start ["grid", "walks", "t", "longer"] [V.ref g,V.ref r,V.int t]=[some (V.ref g),some (V.ref r),some (V.int t),none] from rfl];simp only[zg,zf,↓reduceIte];refine⟨⟨_,.of hr1⟩,fun d => ?_⟩;refine yf (xs:=xs) (fun i ys H2=>Same H H2/\∃gs,WsL H2 ys gs/\gs.length=i/\∀(u:Nat) e',gs[u]? = some e'->H e'.2.2=none/\∃e,fs[u]? = some e/\e'.1=e.1+zz rows u t/\e'.2.1=e.2.1++[t]) ⟨Same.refl _,[],WsL.nil,rfl,fun u e he=>by simp at he⟩ ?_ ?_ ?_
    . rintro i ys H2 hi ⟨S,gs,W2,hl,_⟩
      exact⟨by rw[W2.len,hl];exact Zd hi (Zd (show xs.length<=8 by omega) (by decide)),S.seq (.of hr1)⟩
    . rintro i x ys H2 hx ⟨S,gs,W2,hl,hy⟩
      have hi:i<n:=by have:=vg hx;omega
      obtain⟨e,he⟩:=vj (xs:=fs) (t:=i) (by omega);obtain⟨p,a1,a2,a3⟩:=W.at' i e he;rw[hx]at a1;cases a1;obtain⟨s0,ws,e1,e2,e3⟩:=hend i e he;rw[e1]at a3;have hp2:=S _ _ a2;have hl2:=S _ _ a3;simp only[zg,zf,↓reduceIte];refine⟨_,.of hp2,rfl,?_⟩;simp only[zg,zf,↓reduceIte];refine⟨_,.of hl2,_,zcw s0 ws,?_⟩;rw[e2];refine wb (G.mono S) hi ht ?_;simp only[zg,zf,↓reduceIte];refine⟨by show 1<=sizeLine;decide,fun b hb => ?_⟩;have S1:Same H2 (upd H2 b (.lst [V.int t])):=Same.upd (Same.refl _) hb;refine⟨_,S1 _ _ hl2,_,zc,?_,fun c hc=>⟨by show 2<=sizeLine;decide,fun z hz => ?_⟩⟩
      . simp only[nI,Za,ZN,ZX]
        exact Zd (show ws.length+1+1<=102 by omega) (by decide)
      . have S2:Same (upd H2 b (.lst [V.int t])) (upd (upd H2 b (.lst [V.int t])) c (.lst ((nI (s0::ws)).map V.int++[V.int t]))):=Same.upd (Same.refl _) hc
        have hc2:upd (upd H2 b (.lst [V.int t])) c (.lst ((nI (s0::ws)).map V.int++[V.int t])) c=some (.lst ((nI (e.2.1++[t])).map V.int)):=by rw[zc,zc7,e1]
        have hcH:H c=none:=(S.trans S1).free hc;have S3:=Same.upd (o:=.tup [V.int (e.1+zz rows i t),V.ref c]) (Same.refl (upd (upd H2 b (.lst [V.int t])) c (.lst ((nI (s0::ws)).map V.int++[V.int t])))) hz;have SS:=S1.trans (S2.trans S3);refine⟨S.trans SS,gs++[(e.1+zz rows i t,e.2.1++[t],c)],W2.snoc SS zc (S3 _ _ hc2),by simp[hl],fun u e' hu => ?_⟩
        rcases v6 hu with y | ⟨y,rfl⟩
        . exact hy u e' y
        . rw[y,hl]
          exact⟨hcH,e,he,rfl,rfl⟩
    . rintro ys H2 ⟨S,gs,W2,hl,hy⟩ lo hlo
      have S1:Same H2 (upd H2 lo (.lst ys)):=Same.upd (Same.refl _) hlo;have hyl:=W2.len;refine⟨ys,.of zc,by omega,fun u=>(gs.getD u (0,[],0)).1,fun i x hx => ?_,fun i x hx hm => ?_⟩
      . obtain⟨e',he'⟩:=vj (xs:=gs) (t:=i) (by have:=vg hx;omega)
        obtain⟨p,a1,a2,a3⟩:=W2.at' i e' he';rw[hx]at a1;cases a1;refine⟨p,_,_,rfl,S1 _ _ a2,?_,rfl⟩
        show V.int e'.1=V.int (gs.getD i (0,[],0)).1
        rw[iy he']
      . obtain⟨e',he'⟩:=vj (xs:=gs) (t:=i) (by have:=vg hx;omega)
        obtain⟨p,a1,a2,a3⟩:=W2.at' i e' he';rw[hx]at a1;cases a1;obtain⟨h0,e,b1,b2,b3⟩:=hy i e' he';rw[b2]at a2;rw[b3]at a3;refine q _ p e'.2.2 i e (S.trans S1) h0 b1 (fun u d hu => ?_) (S1 _ _ a2) (S1 _ _ a3);obtain⟨d',hd'⟩:=vj (xs:=gs) (t:=u) (by have:=vg hu;omega);obtain⟨_,d2,c1,c2,c3⟩:=hy u d' hd';rw[hu]at c1;cases c1;have z:=(hm u (by have:=vg hu;omega)).1;have z':(gs.getD i (0,[],0)).1<=(gs.getD u (0,[],0)).1:=z;rw[iy he',iy hd']at z';omega
theorem zbo (B:Bt mg) (rj:FnAt P w K mg base "least_to" 3 ["grid", "walks", "t"] (zbk K)) (D:ze K mg "lengthened" ue ["grid", "walks"]):FnAt P w K mg base "lengthened" 4 ["grid", "walks"] (zcx K):=by
  refine FnAt.of D jt (fun vs H Q E h => ?_) (fun f cdv A outer s H vs Q E hr h => ?_)
  . obtain⟨g,r,rows,xs,fs,n,rfl,_⟩:=h
    rfl
  . obtain⟨g,r,rows,xs,fs,n,rfl,G,hr1,W,hlen,hend,q⟩:=h
    have n8:=G.n8;refine⟨_,(@zi _ _ _ (@zm _ _ _ _ (yh ["t"] ["grid", "walks"] rfl (yv rfl B.range (za (zr zw rfl B.len yd (za (pv 0) (@zb _))) (@zb _))) (fun _=>(zn (i:=0) (show(["t", "grid", "walks"]:List Str).Nodup by decide +kernel) rfl (Or.inl rfl))) (fun _=>(@z8 _)) (fun _=>(zh rj (hr.mono (by decide)) rfl (za (pv 1) (za (pv 2) (za (pv 0) (@zb _)))))) rfl (by decide +kernel) rfl rfl))),?_⟩;rw[show start ["grid", "walks"] [V.ref g,V.ref r]=[some (V.ref g),some (V.ref r)] from rfl];simp only[zg,zf,↓reduceIte];obtain⟨as,h1,h2⟩:=G.ex;refine⟨_,.inl h1.1,?_⟩;rw[Za,h2];refine⟨by omega,by omega,fun d => ?_⟩;rw[Zw];refine x8 (fun i ys H2=>Same H H2/\∃gs,WsL H2 ys gs/\zge (zz rows) H fs gs i) ⟨Same.refl _,[],WsL.nil,rfl,Dis.nil,fun t e he=>by simp at he,fun t e he=>by simp at he⟩ ?_ ?_ ?_
    . rintro i ys H' hi ⟨S,gs,W2,L⟩
      rw[W2.len,L.len];exact Zd hi (Zd n8 (by decide))
    . rintro i ys H' hi ⟨S,gs,W2,L⟩
      simp only[zg,zf,↓reduceIte];refine⟨g,r,rows,xs,fs,n,i,rfl,G.mono S,S _ _ hr1,W.mono S,hlen,hend,hi,fun H2 p l j e S2 hl hj hm hp hl2 => ?_⟩;refine⟨S.trans S2,gs++[(e.1+zz rows j i,e.2.1++[i],l)],W2.snoc S2 hp hl2,by simp[L.len],L.dis.snoc W2 hl,fun t e' he' => ?_,fun t e' he' => ?_⟩
      . rcases v6 he' with y | ⟨y,rfl⟩
        . exact L.new t e' y
        . exact S.free hl
      . rcases v6 he' with y | ⟨y,rfl⟩
        . exact L.min t e' y
        . rw[y,L.len]
          exact⟨j,e,hj,hm,rfl,rfl⟩
    . rintro ys H' ⟨S,gs,W2,L⟩ l hl
      have S1:Same H' (upd H' l (.lst ys)):=Same.upd (Same.refl _) hl;exact q _ l ys gs (S.trans S1) zc (W2.mono S1) L
theorem fi (xg:FnAt P w K mg base "total_of" 1 ["walk"] o5) (D:ze K mg "lesser" jf ["walk", "longer"]):FnAt P w K mg base "lesser" 2 ["walk", "longer"] zac:=by
  refine FnAt.of D zhj (fun vs H Q E h => ?_) (fun f cdv A outer s H vs Q E hr h => ?_)
  . obtain⟨p,q,i,j,l,m,rfl,_⟩:=h
    rfl
  . obtain⟨p,q,i,j,l,m,rfl,hp,hq,q1,q2⟩:=h
    refine⟨_,(@zi _ _ _ (@zm _ _ _ _ (@zig _ _ _ _ _ _ _ _ (@yp _ _ _ _ _ _ _ _ lq (zh xg (hr.mono (by decide)) rfl (za (pv 1) (@zb _))) (zh xg (hr.mono (by decide)) rfl (za (pv 0) (@zb _))) (yk _)) (pv 1) (pv 0)))),?_⟩;rw[show start ["walk", "longer"] [V.ref p,V.ref q]=[some (V.ref p),some (V.ref q)] from rfl];simp only[zg,zf,↓reduceIte];refine⟨q,j,m,rfl,hq,?_⟩;simp only[zg,zf,↓reduceIte];refine⟨p,i,l,rfl,hp,?_⟩;simp only[zg,zf,↓reduceIte];exact ite2 (fun h=>q1 (of_decide_eq_true h)) fun h=>q2 (Int.not_lt.mp fun z=>h (decide_eq_true z))
end
def fOf(fs:List (Int×List Nat×Addr))(t:Nat):Int×List Nat:=((fs.getD t (0,[],0)).1,(fs.getD t (0,[],0)).2.1)
theorem vy{fs:List (Int×List Nat×Addr)}{t:Nat}{e:Int×List Nat×Addr}(h:fs[t]? = some e):fOf fs t=(e.1,e.2.1):=by unfold fOf;rw[iy h]
theorem Rds.endOk{T:Nat->Nat->Int}{b:Nat->Int}{S:Nat->Prop}{n k:Nat}{fs:List (Int×List Nat×Addr)}(R:Rds T b S n k (fOf fs))(hl:fs.length=n)(hk:k<=100):ze2 fs:=fun t e he=>by
  obtain⟨s,ws,e1,hS,hs,hto,hw,hv,hd,hk2⟩:=(R.rd t (by have:=vg he;omega)).ex;rw[vy he]at e1;exact⟨s,ws,e1,by rw[<-ze4];exact hto,by omega⟩
structure Told(T:Nat->Nat->Int)(b:Nat->Int)(S:Nat->Prop)(n k:Nat)(fs gs:List (Int×List Nat×Addr)):Prop where
  len:gs.length=n
  dis:Dis gs
  rds:Rds T b S n k (fOf gs)
  le:∀t,t<n->(fOf gs t).1<=(fOf fs t).1
def zc3(K:Fg):Sp:=fun vs H Q _=>∃(g r:Addr) (rows:List (List Int)) (xs:List V) (fs:List (Int×List Nat×Addr)) (n k:Nat) (b:Nat->Int) (S:Nat->Prop),vs=[.ref g,.ref r]/\Gd K H g rows n/\0<n/\(∀k,NoNeg (zz rows) n k)/\H r=some (.lst xs)/\WsL H xs fs /\
  fs.length=n/\Dis fs/\Rds (zz rows) b S n k (fOf fs)/\k<=1/\∀H' r' ys gs,Same H H'->H' r'=some (.lst ys)->WsL H' ys gs->Told (zz rows) b S n (k+(n-1)) fs gs->Q (.ref r') H'
def PvMix(H3:Hp)(gs hs:List (Int×List Nat×Addr))(i:Nat)(vs:List V)(H4:Hp):Prop:=Same H3 H4/\∃ks,WsL H4 vs ks/\ks.length=i/\∀(t:Nat) e,ks[t]? = some e->∃d e',gs[t]? = some d/\hs[t]? = some e'/\((e'.1<d.1/\e=e')\/(d.1<=e'.1/\e=d))
def zkc(H:Hp)(g:Addr)(T:Nat->Nat->Int)(b:Nat->Int)(S:Nat->Prop)(n k:Nat)(fs:List (Int×List Nat×Addr))(i:Nat)(σ:L2.St)(H2:Hp):Prop:=Same H H2/\∃r' ys gs v2,σ=[some (.ref g),some (.ref r'),v2]/\H2 r'=some (.lst ys)/\WsL H2 ys gs/\Told T b S n (k+i) fs gs
section
variable{P:Program}{w:World}{K:Fg}{mg:Str->Option Value}{base:Heap}
theorem px (B:Bt mg) (vz:FnAt P w K mg base "lengthened" 4 ["grid", "walks"] (zcx K)) (fi:FnAt P w K mg base "lesser" 2 ["walk", "longer"] zac) (D:ze K mg "least_roads" u9 ["grid", "walks"]):FnAt P w K mg base "least_roads" 5 ["grid", "walks"] (zc3 K):=by
  refine FnAt.of D sc_least_roads (fun vs H Q E h => ?_) (fun f cdv A outer s H vs Q E hr h => ?_)
  . obtain⟨g,r,rows,xs,fs,n,k,b,S,rfl,_⟩:=h
    rfl
  . obtain⟨g,r,rows,xs,fs,n,k,b,Sd,rfl,G,hn,no,hr1,W,hlen,hdis,R,hk,q⟩:=h
    have n8:=G.n8;refine⟨_,(@zj _ _ _ _ _ (xc PassesOwn.never rfl (j6 rfl B.range (za (@zd _ _ _ _) (za (@zk _ _ _ _ _ _ _ _ yn (zr zw rfl B.len yd (za (pv 0) (@zb _))) (@zd _ _ _ _)) (@zb _)))) (zn (i:=2) sc_least_roads.nd rfl (Or.inl rfl)) (@zi _ _ _ (vm (i:=1) ["walk", "longer"] ["grid", "walks", "size"] sc_least_roads.nd rfl rfl rfl (pi_zip rfl B.zip (za (pv 1) (za (zh vz (hr.mono (by decide)) rfl (za (pv 0) (za (pv 1) (@zb _)))) (@zb _)))) (fun _=>(si rfl (y0 (zn (i:=0) (show(["walk", "longer", "grid", "walks", "size"]:List Str).Nodup by decide +kernel) rfl (Or.inl rfl)) (y0 (zn (i:=1) (show(["walk", "longer", "grid", "walks", "size"]:List Str).Nodup by decide +kernel) rfl (Or.inl rfl)) (@uk _))))) (fun _=>(@z8 _)) (fun _=>(zh fi (hr.mono (by decide)) rfl (za (pv 0) (za (pv 1) (@zb _))))) rfl (by decide +kernel) rfl rfl rfl))) (@zi _ _ _ (@zm _ _ _ _ (pv 1)))),?_⟩;rw[show start ["grid", "walks", "size"] [V.ref g,V.ref r]=[some (V.ref g),some (V.ref r),none] from rfl];simp only[zg,zf,↓reduceIte];obtain⟨as,h1,h2⟩:=G.ex;refine⟨_,.inl h1.1,?_⟩;rw[Za,h2];refine⟨by omega,by omega,by omega,by omega,?_⟩;rw[show((n:Int)+1-2).toNat=n-1 by omega];refine xx (zkc H g (zz rows) b Sd n k fs) ⟨Same.refl _,r,xs,fs,_,rfl,hr1,W,hlen,hdis,R,fun t ht=>Yu _⟩ ?_ ?_
    . rintro i σ H2 hi ⟨S2,r',ys,gs,v2,rfl,hr2,W2,Td⟩
      have lg:=Td.len;have ly:=W2.len;have le:=Td.le;simp only[zg,zf,↓reduceIte];refine⟨g,r',rows,ys,gs,n,rfl,G.mono S2,hr2,W2,lg,Td.rds.endOk lg (by omega),fun H3 r3 zs hs S3 hr3 W3 L => ?_⟩;have lh:=L.len;have lz:=W3.len;simp only[zg,zf,↓reduceIte];refine⟨⟨_,.of (S3 _ _ hr2)⟩,⟨_,.of hr3⟩,fun d => ?_⟩;refine zic (xs:=ys) (zs:=zs) (PvMix H3 gs hs) ⟨Same.refl _,[],WsL.nil,rfl,fun t e he=>by simp at he⟩ ?_ ?_ ?_
      . rintro j vs H4 hj ⟨S4,ks,W4,lk,_⟩
        refine⟨?_,(S3.trans S4).seq (.of hr2),S4.seq (.of hr3)⟩;rw[W4.len,lk];exact Zd hj (Zd (Nat.min_le_left _ _) (Zd (show ys.length<=8 by omega) (by decide)))
      . rintro j x z vs H4 U hx hz hU ⟨S4,ks,W4,lk,hks⟩
        obtain⟨d1,hd1⟩:=vj (xs:=gs) (t:=j) (by have:=vg hx;omega);obtain⟨e1,he1⟩:=vj (xs:=hs) (t:=j) (by have:=vg hz;omega);obtain⟨p,a1,a2,a3⟩:=W2.at' j d1 hd1;obtain⟨p',b1,b2,b3⟩:=W3.at' j e1 he1;rw[hx]at a1;cases a1;rw[hz]at b1;cases b1;have SU:Same H4 (upd H4 U (.tup [V.ref p,V.ref p'])):=Same.upd (Same.refl _) hU;simp only[zg,zf,↓reduceIte];refine⟨_,.of zc,rfl,?_⟩;simp only[zg,zf,↓reduceIte];generalize upd H4 U (.tup [V.ref p,V.ref p'])=H5 at *;have S35:=S4.trans SU;have S25:=S3.trans S35;refine⟨p,p',_,_,_,_,rfl,S25 _ _ a2,S35 _ _ b2,fun hlt => ?_,fun hle => ?_⟩
        . refine⟨S35,ks++[e1],W4.snoc SU (S35 _ _ b2) (S35 _ _ b3),by simp[lk],fun t e he => ?_⟩
          rcases v6 he with y | ⟨y,rfl⟩
          . exact hks t e y
          . rw[y,lk]
            exact⟨d1,_,hd1,he1,.inl ⟨hlt,rfl⟩⟩
        . refine⟨S35,ks++[d1],W4.snoc SU (S25 _ _ a2) (S25 _ _ a3),by simp[lk],fun t e he => ?_⟩
          rcases v6 he with y | ⟨y,rfl⟩
          . exact hks t e y
          . rw[y,lk]
            exact⟨_,e1,hd1,he1,.inr ⟨hle,rfl⟩⟩
      . rintro vs H4 ⟨S4,ks,W4,lk,hks⟩ l hl
        have lk':ks.length=n:=by rw[lk];omega
        have S5:Same H4 (upd H4 l (.lst vs)):=Same.upd (Same.refl _) hl;refine⟨S2.trans (S3.trans (S4.trans S5)),l,vs,ks,_,rfl,zc,W4.mono S5,lk',?_,?_,fun t ht => ?_⟩
        . intro t u e d he hd ee
          obtain⟨d1,e1,c1,c2,c3⟩:=hks t e he;obtain⟨d2,e2,c4,c5,c6⟩:=hks u d hd
          rcases c3 with ⟨_,rfl⟩ | ⟨_,rfl⟩ <;> rcases c6 with ⟨_,rfl⟩ | ⟨_,rfl⟩
          . exact L.dis t u _ _ c2 c5 ee
          . obtain⟨_,_,_,x3⟩:=W2.at' u _ c4
            rw[<-ee,L.new t _ c2]at x3;cases x3
          . obtain⟨_,_,_,x3⟩:=W2.at' t _ c1
            rw[ee,L.new u _ c5]at x3;cases x3
          . exact Td.dis t u _ _ c1 c4 ee
        . refine Td.rds.step no fun t ht => ?_
          obtain⟨e,he⟩:=vj (xs:=ks) (t:=t) (by omega);obtain⟨d1,e1,c1,c2,c3⟩:=hks t e he;obtain⟨i2,e2,x1,x2,x3,x4⟩:=L.min t e1 c2;refine⟨i2,by have:=vg x1;omega,fun u hu => ?_,?_⟩
          . obtain⟨d,hd⟩:=vj (xs:=gs) (t:=u) (by omega)
            rw[vy x1,vy hd];exact x2 u d hd
          . rw[vy x1,vy c1,vy he]
            rcases c3 with ⟨y,rfl⟩ | ⟨y,rfl⟩
            . left
              rw[x3]at y;exact⟨y,by rw[x3,x4]⟩
            . right
              rw[x3]at y;exact⟨y,rfl⟩
        . obtain⟨e,he⟩:=vj (xs:=ks) (t:=t) (by omega)
          obtain⟨d1,e1,c1,c2,c3⟩:=hks t e he;have z:=le t ht;rw[vy c1]at z;rw[vy he];have z':d1.1<=(fOf fs t).1:=z
          show e.1<=_
          rcases c3 with ⟨y,rfl⟩ | ⟨y,rfl⟩
          . omega
          . exact z'
    . rintro σ H2 ⟨S2,r',ys,gs,v2,rfl,hr2,W2,Td⟩
      simp only[zg,zf,↓reduceIte];exact q H2 r' ys gs S2 hr2 W2 Td
end
structure ToldAt(H:Hp)(v:V)(gs:List (Int×List Nat×Addr)):Prop where
  ex:∃tp pl rl,v=V.ref tp/\H tp=some (.tup [.ref pl,.ref rl])/\H pl=some (.lst ((gs.map fun e=>e.1).map V.int))/\H rl=some (.lst (gs.map fun e=>V.ref e.2.2))
  road:∀e∈gs,H e.2.2=some (.lst ((nI e.2.1).map V.int))
theorem ToldAt.mono{H H':Hp}{v:V}{gs:List (Int×List Nat×Addr)}(S:Same H H')(h:ToldAt H v gs):ToldAt H' v gs:=by
  obtain⟨tp,pl,rl,e,h1,h2,h3⟩:=h.ex;exact⟨⟨tp,pl,rl,e,S _ _ h1,S _ _ h2,S _ _ h3⟩,fun e he=>S _ _ (h.road e he)⟩
def zaw(a:Ad)(K:Fg):Sp:=fun vs H Q E=>∃(g:Addr) (rows:List (List Int)) (n:Nat),vs=[.ref g]/\Gd K H g rows n/\0<n/\(∀H',Same H H'->(∀j,j<=n->NoNeg (zz rows) n j)->Q .non H') /\
  ∀H' c,Same H H'->RingA (zz rows) n c->E (.ref a.NoPays) none H'
def PvTot(H3:Hp)(gs:List (Int×List Nat×Addr))(i:Nat)(ys:List V)(H4:Hp):Prop:=H4=H3/\ys=((gs.take i).map fun e=>e.1).map V.int
def PvWds(H3:Hp)(gs:List (Int×List Nat×Addr))(i:Nat)(ys:List V)(H4:Hp):Prop:=H4=H3/\ys=(gs.take i).map fun e=>V.ref e.2.2
def PvOne(H:Hp)(b:Nat->Int)(i:Nat)(ys:List V)(H4:Hp):Prop:=Same H H4/\∃gs,WsL H4 ys gs/\gs.length=i/\Dis gs/\∀t,t<i->fOf gs t=(b t,[t])
section
variable{P:Program}{w:World}{K:Fg}{mg:Str->Option Value}{base:Heap}{a:Ad}
theorem pw (B:Bt mg) (C:Ct K mg a) (ie:FnAt P w K mg base "ring" 5 ["grid"] (zbt K)) (D:ze K mg "refuse_ring" u6 ["grid"]):FnAtX P w K mg base "refuse_ring" 6 ["grid"] (zaw a K):=by
  refine FnAtX.of D cm (fun vs H Q E h => ?_) (fun f cdv A outer s H vs Q E hr h => ?_)
  . obtain⟨g,rows,n,rfl,_⟩:=h
    rfl
  . obtain⟨g,rows,n,rfl,G,hn,q0,q1⟩:=h
    refine⟨_,(@zi _ _ _ (@yu _ _ _ _ _ _ _ _ (@yp _ _ _ _ _ _ _ _ cq (zh ie (hr.mono (by decide)) rfl (za (pv 0) (@zb _))) (@ph _ _ _) (yk _)) (@zi _ _ _ (ky rfl C.q_NoPays.toErr rfl C.m_NoPays (qo rfl) (za (@u0 _ _ _ _) (@zb _)))) (@yg _))),?_⟩;rw[show start ["grid"] [V.ref g]=[some (V.ref g)] from rfl];simp only[zg,zf,↓reduceIte];refine⟨g,rows,n,rfl,G,hn,fun H1 S1 no => ?_,fun H1 l c S1 hl R => ?_⟩
    . simp only[zg,zf,↓reduceIte]
      exact ite2 (fun z=>absurd z (by simp)) fun _=>q0 H1 S1 no
    . simp only[zg,zf,↓reduceIte]
      exact ite2 (fun _=>⟨by decide,q1 H1 c S1 R⟩) fun z=>(z (by simp)).elim
end
structure Great(rows:List (List Int))(n:Nat)(gs:List (Int×List Nat×Addr)):Prop where
  len:gs.length=n
  dis:Dis gs
  no:∀k,NoNeg (zz rows) n k
  rds:Rds (zz rows) (fun t=>gcA rows t t) (fun _=>True) n (n-1) (fOf gs)
  le:∀t,t<n->(fOf gs t).1<=gcA rows t t
def zc4(a:Ad)(K:Fg):Sp:=fun vs H Q E=>∃(g:Addr) (rows:List (List Int)) (n:Nat),vs=[.ref g]/\Gd K H g rows n/\0<n/\(∀H' v gs,Same H H'->ToldAt H' v gs->Great rows n gs->Q v H') /\
  ∀H' c,Same H H'->RingA (zz rows) n c->E (.ref a.NoPays) none H'
section
variable{P:Program}{w:World}{K:Fg}{mg:Str->Option Value}{base:Heap}{a:Ad}
theorem jp (B:Bt mg) (C:Ct K mg a) (pw:FnAtX P w K mg base "refuse_ring" 6 ["grid"] (zaw a K)) (px:FnAt P w K mg base "least_roads" 5 ["grid", "walks"] (zc3 K)) (xg:FnAt P w K mg base "total_of" 1 ["walk"] o5) (sj:FnAt P w K mg base "words_of" 1 ["walk"] im)
    (D:ze K mg "greatest" on ["grid"]):FnAtX P w K mg base "greatest" 7 ["grid"] (zc4 a K):=by
  refine FnAtX.of D sc_greatest (fun vs H Q E h => ?_) (fun f cdv A outer s H vs Q E hr h => ?_)
  . obtain⟨g,rows,n,rfl,_⟩:=h
    rfl
  . obtain⟨g,rows,n,rfl,G,hn,q0,q1⟩:=h
    have n8:=G.n8;refine⟨_,(@zj _ _ _ _ _ (r6 (ziy pw (hr.mono (by decide)) (zet rfl) rfl (za (pv 0) (@zb _)))) (@zj _ _ _ _ _ (PS.nox (zy (i:=1) sc_greatest.nd rfl (Or.inl rfl) (zh px (hr.mono (by decide)) rfl (za (pv 0) (za (yh ["t"] ["grid", "walks"] rfl (yv rfl B.range (za (zr zw rfl B.len yd (za (pv 0) (@zb _))) (@zb _))) (fun _=>(zn (i:=0) (show(["t", "grid", "walks"]:List Str).Nodup by decide +kernel) rfl (Or.inl rfl))) (fun _=>(@z8 _)) (fun _=>(@y6 _ _ _ _ _ (@za _ _ _ _ _ (@z0 _ _ _ _ _ _ _ yc (@z0 _ _ _ _ _ _ _ yc (pv 1) (pv 0) (fun _ _=>rfl)) (pv 0) (fun _ _=>rfl)) (@za _ _ _ _ _ (@xp _ _ _ _ (@za _ _ _ _ _ (pv 0) (@zb _) (yo nofun))) (@zb _) (yo nofun)) (yo nofun)))) rfl (by decide +kernel) rfl rfl) (@zb _)))))) (@zi _ _ _ (PS.nox (@zm _ _ _ _ (@y6 _ _ _ _ _ (za (yh ["walk"] ["grid", "walks"] rfl (@yb _ _ _ _ (pv 1)) (fun _=>(zn (i:=0) (show(["walk", "grid", "walks"]:List Str).Nodup by decide +kernel) rfl (Or.inl rfl))) (fun _=>(@z8 _)) (fun _=>(zh xg (hr.mono (by decide)) rfl (za (pv 0) (@zb _)))) rfl (by decide +kernel) rfl rfl) (za (yh ["walk"] ["grid", "walks"] rfl (@yb _ _ _ _ (pv 1)) (fun _=>(zn (i:=0) (show(["walk", "grid", "walks"]:List Str).Nodup by decide +kernel) rfl (Or.inl rfl))) (fun _=>(@z8 _)) (fun _=>(zh sj (hr.mono (by decide)) rfl (za (pv 0) (@zb _)))) rfl (by decide +kernel) rfl rfl) (@zb _))))))))),?_⟩;rw[show start ["grid", "walks"] [V.ref g]=[some (V.ref g),none] from rfl];simp only[zg,zf,↓reduceIte];refine⟨g,rows,n,rfl,G,hn,fun H1 S1 no => ?_,fun H1 c S1 R=>q1 H1 c S1 R⟩;have no':=NoNeg.all no;simp only[zg,zf,↓reduceIte];obtain⟨as,h1,h2⟩:=(G.mono S1).ex;refine⟨_,.inl h1.1,?_⟩;rw[Za,h2];refine⟨by omega,by omega,fun d => ?_⟩;rw[Zw];refine x8 (PvOne H1 fun t=>gcA rows t t) ⟨Same.refl _,[],WsL.nil,rfl,Dis.nil,fun t ht=>by omega⟩ ?_ ?_ ?_
    . rintro i ys H2 hi ⟨S2,gs,W2,lg,_⟩
      rw[W2.len,lg];exact Zd hi (Zd n8 (by decide))
    . rintro i ys H2 hi ⟨S2,gs,W2,lg,hd,hf⟩
      obtain⟨ns',e1,l1⟩:=G.sq i hi;have G2:=GridL.mono S2 h1;obtain⟨r,k1,k2⟩:=fb G2 e1;simp only[zg,zf,↓reduceIte];refine⟨_,G2.1,_,k1,r,rfl,_,k2,_,v7 (kn e1 (by omega)),by show 1<=sizeLine;decide,fun l hl=>⟨by show 2<=sizeLine;decide,fun p hp => ?_⟩⟩;have S3:Same H2 (upd H2 l (.lst [V.int i])):=Same.upd (Same.refl _) hl;have hl3:upd H2 l (.lst [V.int i]) l=some (.lst ((nI [i]).map V.int)):=zc;generalize upd H2 l (.lst [V.int i])=H3 at *;have S4:Same H3 (upd H3 p (.tup [V.int (gcA rows i i),V.ref l])):=Same.upd (Same.refl _) hp;have hp4:upd H3 p (.tup [V.int (gcA rows i i),V.ref l]) p=some (.tup [V.int (gcA rows i i),V.ref l]):=zc;generalize upd H3 p (.tup [V.int (gcA rows i i),V.ref l])=H4 at *;refine⟨S2.trans (S3.trans S4),gs++[(gcA rows i i,[i],l)],W2.snoc (S3.trans S4) hp4 (S4 _ _ hl3),by simp[lg],hd.snoc W2 hl,fun t ht => ?_⟩
      by_cases e:t<i
      . rw[<-hf t e]
        unfold fOf;rw[Zk,Zg (by omega),<-Zk]
      . have:t=i:=by omega
        subst this;rw[vy (e:=(gcA rows t t,[t],l)) (by rw[Zf (by omega),lg];simp)]
    . rintro ys H2 ⟨S2,gs,W2,lg,hd,hf⟩ l hl
      have S3:Same H2 (upd H2 l (.lst ys)):=Same.upd (Same.refl _) hl;have hl3:upd H2 l (.lst ys) l=some (.lst ys):=zc;generalize upd H2 l (.lst ys)=H3 at *;have S13:=S1.trans (S2.trans S3);refine⟨g,l,rows,ys,gs,n,0,_,_,rfl,G.mono S13,hn,no',hl3,W2.mono S3,lg,hd,Rds.one hf,by omega,fun H4 r4 zs hs S4 hr4 W4 Td => ?_⟩;have lz:=W4.len;have lh:=Td.len;simp only[zg,zf,↓reduceIte];refine⟨⟨_,.of hr4⟩,fun d2 => ?_⟩;refine yf (xs:=zs) (PvTot H4 hs) ⟨rfl,rfl⟩ ?_ ?_ ?_
      . rintro i ys5 H5 hi ⟨rfl,rfl⟩
        refine⟨?_,.of hr4⟩;rw[Za,Za,Zj];exact Zd (ZB _ _) (Zd (show hs.length<=8 by omega) (by decide))
      . rintro i x ys5 H5 hx ⟨rfl,rfl⟩
        obtain⟨e,he⟩:=vj (xs:=hs) (t:=i) (by have:=vg hx;omega);obtain⟨p,a1,a2,a3⟩:=W4.at' i e he;rw[hx]at a1;cases a1;simp only[zg,zf,↓reduceIte];refine⟨p,_,_,rfl,a2,rfl,?_⟩;rw[Zq,he];simp
      . rintro ys5 H5 ⟨rfl,rfl⟩ pl hpl
        rw[lz,Zt];have S6:Same H5 (upd H5 pl (.lst ((hs.map fun e=>e.1).map V.int))):=Same.upd (Same.refl _) hpl;have hp6:upd H5 pl (.lst ((hs.map fun e=>e.1).map V.int)) pl=some (.lst ((hs.map fun e=>e.1).map V.int)):=zc;generalize upd H5 pl (.lst ((hs.map fun e=>e.1).map V.int))=H6 at *;refine⟨⟨_,S6.seq (.of hr4)⟩,fun d3 => ?_⟩;refine yf (xs:=zs) (PvWds H6 hs) ⟨rfl,rfl⟩ ?_ ?_ ?_
        . rintro i ys5 H5 hi ⟨rfl,rfl⟩
          refine⟨?_,S6.seq (.of hr4)⟩;rw[Za,Zj];exact Zd (ZB _ _) (Zd (show hs.length<=8 by omega) (by decide))
        . rintro i x ys5 H5 hx ⟨rfl,rfl⟩
          obtain⟨e,he⟩:=vj (xs:=hs) (t:=i) (by have:=vg hx;omega);obtain⟨p,a1,a2,a3⟩:=W4.at' i e he;rw[hx]at a1;cases a1;simp only[zg,zf,↓reduceIte];refine⟨p,_,_,rfl,S6 _ _ a2,rfl,?_⟩;rw[Zq,he];simp
        . rintro ys7 H7 ⟨rfl,rfl⟩ rl hrl
          rw[lz,Zt];have S7:Same H7 (upd H7 rl (.lst (hs.map fun e=>V.ref e.2.2))):=Same.upd (Same.refl _) hrl;have hr7:upd H7 rl (.lst (hs.map fun e=>V.ref e.2.2)) rl=some (.lst (hs.map fun e=>V.ref e.2.2)):=zc;generalize upd H7 rl (.lst (hs.map fun e=>V.ref e.2.2))=H8 at *;refine⟨by show 2<=sizeLine;decide,fun tp htp => ?_⟩;have S9:Same H8 (upd H8 tp (.tup [V.ref pl,V.ref rl])):=Same.upd (Same.refl _) htp;have ht9:upd H8 tp (.tup [V.ref pl,V.ref rl]) tp=some (.tup [V.ref pl,V.ref rl]):=zc;generalize upd H8 tp (.tup [V.ref pl,V.ref rl])=H9 at *;have S79:=S7.trans S9;refine q0 H9 _ hs (S13.trans (S4.trans (S6.trans S79))) ⟨⟨tp,pl,rl,rfl,ht9,S79 _ _ hp6,S9 _ _ hr7⟩,fun e he => ?_⟩ ⟨lh,Td.dis,no',by have:=Td.rds;rw[Nat.zero_add]at this;exact this,fun t ht => ?_⟩
          . obtain⟨t,ht,rfl⟩:=Zy he
            obtain⟨p,a1,a2,a3⟩:=W4.at' t hs[t] (by simp[ht]);exact(S6.trans S79) _ _ a3
          . have:=Td.le t ht
            rw[hf t ht]at this;exact this
end
def Hon(rows:List (List Int))(ps:List Int)(n:Nat):Prop:=∀t s:Nat,t<n->s<n->gcA rows t s-gcA rows t t<=ps.getD s 0-ps.getD t 0
theorem zgf{rows:List (List Int)}{ps:List Int}{n:Nat}(h:Hon rows ps n):∀(ws:List Nat) (s:Nat),s<n->(∀x∈ws,x<n)->ps.getD (lst s ws) 0-ps.getD s 0<=wk (zz rows) s ws
  | [],s,_,_=>by show ps.getD s 0-ps.getD s 0<=0;omega
  | w::ws,s,hs,hw=>by
    have hw':=hw w ZA;have h1:=zgf h ws w hw' fun x hx=>hw x (Zv _ hx)
    have h2:=h w s hw' hs
    show ps.getD (lst w ws) 0-ps.getD s 0<=zz rows s w+wk (zz rows) w ws
    unfold zz;unfold zz at h1;omega
theorem zjv{rows:List (List Int)}{ps:List Int}{n:Nat}{c:List Nat}(R:RingA (zz rows) n c):¬Hon rows ps n:=fun h=>by
  have neg:=R.neg;have lt:=R.lt;have two:=R.two
  cases c with
  | nil=>simp at two
  | cons s ws =>
    have hs:=lt s ZA
    have:=zgf h (ws++[s]) s hs fun x hx=>by
      rcases ZH.mp hx with z | z
      . exact lt x (Zv _ z)
      . rw[ZC.mp z];exact hs
    rw[x0]at this;have neg':wk (zz rows) s (ws++[s])<0:=neg;omega
theorem zco{gs:List (Int×List Nat×Addr)}{t:Nat}(h:t<gs.length):(gs.map fun e=>e.1).getD t 0=(fOf gs t).1:=by
  obtain⟨e,he⟩:=vj h;rw[vy he,Zk,Ze,he];rfl
theorem Great.hon{rows:List (List Int)}{n:Nat}{gs:List (Int×List Nat×Addr)}(g:Great rows n gs):Hon rows (gs.map fun e=>e.1) n:=fun t s ht hs=>by
  have lg:=g.len;rw[zco (by omega),zco (by omega)];have:=g.rds.honest g.no (by omega) hs ht;unfold zz at this;omega
theorem Great.most{rows:List (List Int)}{n:Nat}{gs:List (Int×List Nat×Addr)}(g:Great rows n gs){ds:List Int}{m:Int}(h:Hon rows ds n)(hm:∀t,t<n->ds.getD t 0-gcA rows t t<=m){t:Nat}(ht:t<n):ds.getD t 0-m<=(fOf gs t).1:=by
  refine(g.rds.rd t ht).most (p:=fun t=>ds.getD t 0-m) (fun s t hs ht => ?_) (fun s hs _ => ?_)
  . have:=h t s ht hs
    show ds.getD t 0-m-(ds.getD s 0-m)<=zz rows s t
    unfold zz;omega
  . have:=hm s hs
    show ds.getD s 0-m<=gcA rows s s
    omega
def cz:Sp:=fun vs H Q _=>∃(c:Addr) (r:List Str) (k:Nat) (z:Str),vs=[.ref c,.int k,.str z]/\H c=some (.tup (r.map V.str))/\k<=r.length/\r.length<=8/\∀H' p,Same H H'->H' p=some (.tup ((insP r k z).map V.str))->Q (.ref p) H'
section
variable{P:Program}{w:World}{K:Fg}{mg:Str->Option Value}{base:Heap}{a:Ad}
theorem ja (B:Bt mg) (D:ze K mg "row_with" oh ["others", "k", "word"]):FnAt P w K mg base "row_with" 1 ["others", "k", "word"] cz:=by
  refine FnAt.of D zb7 (fun vs H Q E h => ?_) (fun f cdv A outer s H vs Q E hr h => ?_)
  . obtain⟨c,r,k,z,rfl,_⟩:=h
    rfl
  . obtain⟨c,r,k,z,rfl,hc,hk,h8,q⟩:=h
    refine⟨_,(@zi _ _ _ (@zm _ _ _ _ (@zk _ _ _ _ _ _ _ _ uj (@zk _ _ _ _ _ _ _ _ uj (@xt _ _ _ _ _ _ _ _ _ _ o6 (pv 0) (@we _) (@xy _ _ _ (pv 1))) (@y6 _ _ _ _ _ (za (pv 2) (@zb _)))) (@xt _ _ _ _ _ _ _ _ _ _ o6 (pv 0) (@xy _ _ _ (pv 1)) (@we _))))),?_⟩;rw[show start ["others", "k", "word"] [V.ref c,V.int k,V.str z]=[some (V.ref c),some (V.int k),some (V.str z)] from rfl];simp only[zg,zf,↓reduceIte];refine⟨_,hc,fun H1 p1 S1 h1=>⟨by decide,fun p2 hp2 => ?_⟩⟩;rw[o7 (by rw[Za];exact hk)]at h1;have S2:Same H1 (upd H1 p2 (.tup [V.str z])):=Same.upd (Same.refl _) hp2;refine⟨_,S2 _ _ h1,_,zc,?_,fun H3 p3 S3 h3 => ?_⟩
    . rw[Zj,Za]
      exact Zd (show _<=9 by simp;omega) (by decide)
    refine⟨_,(S1.trans (S2.trans S3)) _ _ hc,fun H4 p4 S4 h4 => ?_⟩;rw[tq (by rw[Za];exact hk)]at h4;refine⟨_,S4 _ _ h3,_,h4,?_,fun H5 p5 S5 h5 => ?_⟩
    . simp only[Zo,Zj,ZP,Za,ZN,ZX]
      exact Zd (show _<=17 by omega) (by decide)
    . refine q H5 p5 (S1.trans (S2.trans (S3.trans (S4.trans S5)))) ?_
      rw[h5,insP];simp
end
def putP(f:List Str->Str)(outs o:List Str)(k:Nat)(us:List Str):List Nat:=us.map fun u=>outs.idxOf (f (insP o k u))
def colP(d:HD)(ps:List Nat):List (List Int):=d.worths.map fun r=>ps.map fun p=>r.getD p 0
def am(f:List Str->Str)(rs:List (List Str))(outs o:List Str)(k:Nat)(d:HD):Prop:=k<=o.length/\o.length<=8/\∀u∈d.words,insP o k u∈rs/\f (insP o k u)∈outs
def zcy:Sp:=fun vs H Q _=>∃(p o h t c:Addr) (hs:List Addr) (outs:List Str) (ds:List HD) (f:List Str->Str) (rs:List (List Str)) (ot:List Str) (k:Nat) (d:HD),vs=[.ref p,.ref t,.int k,.ref c]/\HHouse H p o h hs outs ds/\GoodHouse outs ds/\H t=some (.dT (xq f rs))/\ds[k]? = some d/\H c=some (.tup (ot.map V.str))/\am f rs outs ot k d /\
  ∀H' l,Same H H'->H' l=some (.lst ((nI (putP f outs ot k d.words)).map V.int))->Q (.ref l) H'
def fv:Sp:=fun vs H Q _=>∃(t l:Addr) (ns:List Int) (ps:List Nat),vs=[.ref t,.ref l]/\H t=some (.tup (ns.map V.int))/\H l=some (.lst ((nI ps).map V.int))/\(∀p∈ps,p<ns.length)/\ps.length<=8/\∀H' l',Same H H'->H' l'=some (.lst ((ps.map fun p=>ns.getD p 0).map V.int))->Q (.ref l') H'
def zbn:Sp:=fun vs H Q _=>∃(p o h t c:Addr) (hs:List Addr) (outs:List Str) (ds:List HD) (f:List Str->Str) (rs:List (List Str)) (ot:List Str) (k:Nat) (d:HD),vs=[.ref p,.ref t,.int k,.ref c]/\HHouse H p o h hs outs ds/\GoodHouse outs ds/\H t=some (.dT (xq f rs))/\ds[k]? = some d/\H c=some (.tup (ot.map V.str))/\am f rs outs ot k d /\
  ∀H' l ls,Same H H'->H' l=some (.lst (ls.map V.ref))->IntsAt H' ls (colP d (putP f outs ot k d.words))->Q (.ref l) H'
def PvTu(H:Hp)(o:List Str)(k:Nat)(us:List Str)(i:Nat)(ys:List V)(H':Hp):Prop:=Same H H'/\∃as:List Addr,ys=as.map V.ref/\TupsAt H' as ((us.take i).map (insP o k))
def PvPp(H:Hp)(f:List Str->Str)(outs o:List Str)(k:Nat)(us:List Str)(i:Nat)(ys:List V)(H':Hp):Prop:=H'=H/\ys=(nI (putP f outs o k (us.take i))).map V.int
def PvWa(H:Hp)(ns:List Int)(ps:List Nat)(i:Nat)(ys:List V)(H':Hp):Prop:=H'=H/\ys=((ps.take i).map fun p=>ns.getD p 0).map V.int
def PvCl(H:Hp)(d:HD)(ps:List Nat)(i:Nat)(ys:List V)(H':Hp):Prop:=Same H H'/\∃ls:List Addr,ys=ls.map V.ref/\IntsAt H' ls ((colP d ps).take i)
section
variable{P:Program}{w:World}{K:Fg}{mg:Str->Option Value}{base:Heap}{a:Ad}
theorem qe (B:Bt mg) (ja:FnAt P w K mg base "row_with" 1 ["others", "k", "word"] cz) (yi:FnAt P w K mg base "words_of_hand" 1 ["hand"] (xm K 1)) (f_hands_of:FnAt P w K mg base "hands_of" 1 ["house"] (xm K 1)) (f_outcomes_of:FnAt P w K mg base "outcomes_of" 1 ["house"] (xm K 0)) (D:ze K mg "dealt_places" uh ["house", "table", "k", "others"]):FnAt P w K mg base "dealt_places" 2 ["house", "table", "k", "others"] zcy:=by
  refine FnAt.of D sc_dealt_places (fun vs H Q E h => ?_) (fun f cdv A outer s H vs Q E hr h => ?_)
  . obtain⟨p,o,h,t,c,hs,outs,ds,f,rs,ot,k,d,rfl,_⟩:=h
    rfl
  . obtain⟨p,o,h,t,c,hs,outs,ds,f,rs,ot,k,d,rfl,hH,G,ht,hd,hc,⟨hk,h8,hD⟩,q⟩:=h
    refine⟨_,(@zj _ _ _ _ _ (vm (i:=4) ["word"] ["house", "table", "k", "others", "rows"] sc_dealt_places.nd rfl rfl rfl (@dc _ _ _ _ (zh yi (hr.mono (by decide)) rfl (za (@z0 _ _ _ _ _ _ _ ym (zh f_hands_of (hr.mono (by decide)) rfl (za (pv 0) (@zb _))) (pv 2) (fun _ _=>rfl)) (@zb _)))) (fun _=>(zn (i:=0) (show(["word", "house", "table", "k", "others", "rows"]:List Str).Nodup by decide +kernel) rfl (Or.inl rfl))) (fun _=>(@z8 _)) (fun _=>(zh ja (hr.mono (by decide)) rfl (za (pv 4) (za (pv 3) (za (pv 0) (@zb _)))))) rfl (by decide +kernel) rfl rfl rfl) (@zi _ _ _ (@zm _ _ _ _ (yh ["row"] ["house", "table", "k", "others", "rows"] rfl (@yb _ _ _ _ (pv 4)) (fun _=>(zn (i:=0) (show(["row", "house", "table", "k", "others", "rows"]:List Str).Nodup by decide +kernel) rfl (Or.inl rfl))) (fun _=>(@z8 _)) (fun _=>(zgs PySem.F.plainAttrs_tuple PySem.F.slot_tuple_index PySem.F.type_tuple_index bb (zh f_outcomes_of (hr.mono (by decide)) rfl (za (pv 1) (@zb _))) (za (@tu _ _ _ _ _ _ (hu10 hr) (pv 2) (pv 0) (fun _ _=>rfl)) (@zb _)))) rfl (by decide +kernel) rfl rfl)))),?_⟩;rw[show start ["house", "table", "k", "others", "rows"] [V.ref p,V.ref t,V.int k,V.ref c]=[some (V.ref p),some (V.ref t),some (V.int k),some (V.ref c),none] from rfl];simp only[zg,zf,↓reduceIte];have hkl:k<ds.length:=(Zc.mp hd).1;obtain⟨x,hx⟩:∃x,hs[k]? = some x:=⟨hs[k]'(by rw[hH.hand.1];exact hkl),by simp⟩;obtain⟨wd,g,gs,hA⟩:=hH.hand.2 k x d hx hd;refine⟨p,_,_,rfl,.of hH.tup,rfl,h,rfl,_,.of hH.hands,_,z7 (v:=V.ref x) (by rw[Ze,hx];rfl),?_⟩;refine⟨x,_,_,rfl,.of hA.tup,rfl,wd,rfl,⟨_,.of hA.words⟩,fun dd => ?_⟩;have w8:=(G.words1 d (Zi hd)).2;refine g0 (xs:=d.words.map V.str) (PvTu H ot k d.words) ⟨Same.refl _,[],rfl,rfl,fun i a r e=>by simp at e⟩ ?_ ?_ ?_
    . rintro i ys H2 hi ⟨S2,as,rfl,T2⟩
      refine⟨?_,.of (S2 _ _ hA.words)⟩;rw[Za,T2.len,Za,Zj];exact Zd (ZB _ _) (Zd w8 (by decide))
    . rintro i y ys H2 hy ⟨S2,as,rfl,T2⟩
      obtain⟨u,hu,rfl⟩:=yl hy;simp only[zg,zf,↓reduceIte];refine⟨c,ot,k,u,rfl,S2 _ _ hc,hk,h8,fun H3 p3 S3 h3 => ?_⟩;refine⟨S2.trans S3,as++[p3],by simp,?_⟩;rw[Zq,hu,Zn];exact(T2.mono S3).append (TupsAt.one h3)
    . rintro ys H2 ⟨S2,as,rfl,T2⟩ l hl
      rw[Za,Zt]at T2;have S3:Same H2 (upd H2 l (.lst (as.map V.ref))):=Same.upd (Same.refl _) hl;have h3:upd H2 l (.lst (as.map V.ref)) l=some (.lst (as.map V.ref)):=zc;generalize upd H2 l (.lst (as.map V.ref))=H3 at *;have T3:=T2.mono S3;have S13:=S2.trans S3;refine⟨⟨_,.of h3⟩,fun dd => ?_⟩;refine yf (xs:=as.map V.ref) (PvPp H3 f outs ot k d.words) ⟨rfl,rfl⟩ ?_ ?_ ?_
      . rintro i ys H4 hi ⟨rfl,rfl⟩
        refine⟨?_,.of h3⟩;rw[Za,nI,Za,putP,Za,Zj];exact Zd (ZB _ _) (Zd w8 (by decide))
      . rintro i y ys H4 hy ⟨rfl,rfl⟩
        obtain⟨b,hb,rfl⟩:=qc hy;have hi:i<d.words.length:=by have:=(Zc.mp hb).1;have:=T3.len;rw[Za]at this;omega
        have hu:d.words[i]? = some d.words[i]:=Zb hi;have hrow:=T3.at' i b _ hb (by rw[Ze,hu];rfl);obtain⟨z1,z2⟩:=hD _ (Zl hi);generalize d.words[i]=u at *;have hval:valV (xq f rs) (ya (insP ot k u))=some (V.str (f (insP ot k u))):=kx z1
        have gt:DGet H4 t (.ref b) (some (V.str (f (insP ot k u)))):=by
          have:=DGet.t (k:=ya (insP ot k u)) (S13 _ _ ht) (b:=b) (by rw[xw];exact hrow)
          rwa [hval]at this
        simp only[zg,zf,↓reduceIte];have hH4:=hH.mono S13;refine⟨p,_,_,rfl,.of hH4.tup,rfl,⟨o,rfl,_,.of hH4.outs⟩,_,gt,o,rfl,_,.of hH4.outs,_,ig z2,rfl,?_⟩;rw[Zq,hu];simp[putP,nI]
      . rintro ys H4 ⟨rfl,rfl⟩ l2 hl2
        rw[Za,T3.len,Za,Zt];exact q _ l2 (S13.trans (Same.upd (Same.refl _) hl2)) zc
theorem kg (D:ze K mg "worths_at" qm ["worths", "places"]):FnAt P w K mg base "worths_at" 1 ["worths", "places"] fv:=by
  refine FnAt.of D zam (fun vs H Q E h => ?_) (fun f cdv A outer s H vs Q E hr h => ?_)
  . obtain⟨t,l,ns,ps,rfl,_⟩:=h
    rfl
  . obtain⟨t,l,ns,ps,rfl,ht,hl,hp,h8,q⟩:=h
    refine⟨_,(@zi _ _ _ (@zm _ _ _ _ (yh ["place"] ["worths", "places"] rfl (@yb _ _ _ _ (pv 1)) (fun _=>(zn (i:=0) (show(["place", "worths", "places"]:List Str).Nodup by decide +kernel) rfl (Or.inl rfl))) (fun _=>(@z8 _)) (fun _=>(@z0 _ _ _ _ _ _ _ ym (pv 1) (pv 0) (fun _ _=>rfl))) rfl (by decide +kernel) rfl rfl))),?_⟩;rw[show start ["worths", "places"] [V.ref t,V.ref l]=[some (V.ref t),some (V.ref l)] from rfl];simp only[zg,zf,↓reduceIte];refine⟨⟨_,.of hl⟩,fun dd => ?_⟩;refine yf (xs:=(nI ps).map V.int) (PvWa H ns ps) ⟨rfl,rfl⟩ ?_ ?_ ?_
    . rintro i ys H4 hi ⟨rfl,rfl⟩
      refine⟨?_,.of hl⟩;rw[Za,Za,Zj];exact Zd (ZB _ _) (Zd h8 (by decide))
    . rintro i y ys H4 hy ⟨rfl,rfl⟩
      obtain⟨z,hz,rfl⟩:=zba hy;rw[nI,Ze]at hz
      obtain⟨pl,hpl⟩:∃y,ps[i]? = some y:=by
        cases e:ps[i]? with
        | none=>rw[e]at hz;cases hz
        | some y=>exact⟨y,rfl⟩
      rw[hpl]at hz;cases hz;have lt:=hp pl (Zi hpl);have ex:ns[pl]? = some (ns.getD pl 0):=by rw[Zk,Zb lt];rfl
      simp only[zg,zf,↓reduceIte];refine⟨_,.of ht,_,v7 ex,rfl,?_⟩;rw[Zq,hpl,Zn,Zn];rfl
    . rintro ys H4 ⟨rfl,rfl⟩ l2 hl2
      rw[Za,nI,Za,Zt];exact q _ l2 (Same.upd (Same.refl _) hl2) zc
theorem ij (B:Bt mg) (qe:FnAt P w K mg base "dealt_places" 2 ["house", "table", "k", "others"] zcy) (kg:FnAt P w K mg base "worths_at" 1 ["worths", "places"] fv) (yz:FnAt P w K mg base "worths_of_hand" 1 ["hand"] (xm K 2)) (f_hands_of:FnAt P w K mg base "hands_of" 1 ["house"] (xm K 1)) (D:ze K mg "grid_of" mr ["house", "table", "k", "others"]):FnAt P w K mg base "grid_of" 3 ["house", "table", "k", "others"] zbn:=by
  refine FnAt.of D sc_grid_of (fun vs H Q E h => ?_) (fun f cdv A outer s H vs Q E hr h => ?_)
  . obtain⟨p,o,h,t,c,hs,outs,ds,f,rs,ot,k,d,rfl,_⟩:=h
    rfl
  . obtain⟨p,o,h,t,c,hs,outs,ds,f,rs,ot,k,d,rfl,hH,G,ht,hd,hc,hD,q⟩:=h
    refine⟨_,(@zj _ _ _ _ _ (zy (i:=4) sc_grid_of.nd rfl (Or.inr rfl) (zh qe (hr.mono (by decide)) rfl (za (pv 0) (za (pv 1) (za (pv 2) (za (pv 3) (@zb _))))))) (@zi _ _ _ (@zm _ _ _ _ (yh ["worths"] ["house", "table", "k", "others", "places"] rfl (@dc _ _ _ _ (zh yz (hr.mono (by decide)) rfl (za (@z0 _ _ _ _ _ _ _ ym (zh f_hands_of (hr.mono (by decide)) rfl (za (pv 0) (@zb _))) (pv 2) (fun _ _=>rfl)) (@zb _)))) (fun _=>(zn (i:=0) (show(["worths", "house", "table", "k", "others", "places"]:List Str).Nodup by decide +kernel) rfl (Or.inl rfl))) (fun _=>(@z8 _)) (fun _=>(zh kg (hr.mono (by decide)) rfl (za (pv 0) (za (pv 5) (@zb _))))) rfl (by decide +kernel) rfl rfl)))),?_⟩;rw[show start ["house", "table", "k", "others", "places"] [V.ref p,V.ref t,V.int k,V.ref c]=[some (V.ref p),some (V.ref t),some (V.int k),some (V.ref c),none] from rfl];simp only[zg,zf,↓reduceIte];refine⟨p,o,h,t,c,hs,outs,ds,f,rs,ot,k,d,rfl,hH,G,ht,hd,hc,hD,fun H1 l S1 hl => ?_⟩;have hkl:k<ds.length:=(Zc.mp hd).1;obtain⟨x,hx⟩:∃x,hs[k]? = some x:=⟨hs[k]'(by rw[hH.hand.1];exact hkl),by simp⟩;have hH1:=hH.mono S1;obtain⟨wd,g,gs,hA⟩:=hH1.hand.2 k x d hx hd;have hmd:=Zi hd;have w8:=(G.words1 d hmd).2;have ro:=G.rows d hmd;simp only[zg,zf,↓reduceIte];refine⟨p,_,_,rfl,.of hH1.tup,rfl,h,rfl,_,.of hH1.hands,_,z7 (v:=V.ref x) (by rw[Ze,hx];rfl),?_⟩;refine⟨x,_,_,rfl,.of hA.tup,rfl,g,rfl,⟨_,.of hA.grid⟩,fun dd => ?_⟩
    have hps:∀p∈putP f outs ot k d.words,p<outs.length:=fun p hp=>by
      obtain⟨u,hu,rfl⟩:=Zp.mp hp;exact Zz.mpr (hD.2.2 u hu).2
    have lps:(putP f outs ot k d.words).length=d.words.length:=by rw[putP,Za]
    generalize putP f outs ot k d.words=ps at *;refine g0 (xs:=gs.map V.ref) (PvCl H1 d ps) ⟨Same.refl _,[],rfl,rfl,fun i a r e=>by simp at e⟩ ?_ ?_ ?_
    . rintro i ys H2 hi ⟨S2,as,rfl,T2⟩
      refine⟨?_,.of (S2 _ _ hA.grid)⟩;rw[Za,T2.len,Zj,colP,Za];exact Zd (ZB _ _) (Zd (show _<=8 by omega) (by decide))
    . rintro i y ys H2 hy ⟨S2,as,rfl,T2⟩
      obtain⟨b,hb,rfl⟩:=qc hy;have hi:i<d.worths.length:=by have:=(Zc.mp hb).1;have:=hA.len;omega
      have er:d.worths[i]? = some d.worths[i]:=Zb hi;have hrow:=S2 _ _ (hA.row i b _ hb er);have hcl:=G.cols d hmd _ (Zl hi);simp only[zg,zf,↓reduceIte];refine⟨b,l,d.worths[i],ps,rfl,hrow,S2 _ _ hl,fun p hp=>by rw[hcl];exact hps p hp,by omega,fun H3 l3 S3 h3 => ?_⟩;refine⟨S2.trans S3,as++[l3],by simp,?_⟩;rw[Zq,colP,Ze,er];exact(T2.mono S3).snoc h3
    . rintro ys H2 ⟨S2,as,rfl,T2⟩ l2 hl2
      rw[Za,hA.len,ZG (by rw[colP,Za];exact Zm _)]at T2;have S3:Same H2 (upd H2 l2 (.lst (as.map V.ref))):=Same.upd (Same.refl _) hl2;exact q _ l2 as (S1.trans (S2.trans S3)) zc (T2.mono S3)
end
def dueK(ds:List HD)(m:Nat):List (Nat×List Str):=(List.range m).flatMap fun k=>(zx ((ds.eraseIdx k).map HD.words)).map fun o=>(k,o)
theorem bg(ds:List HD)(m:Nat):dueK ds (m+1)=dueK ds m++(zx ((ds.eraseIdx m).map HD.words)).map fun o=>(m,o):=by
  rw[dueK,Yz,List.flatMap_append];simp[dueK]
def xl(f:List Str->Str)(outs:List Str)(ds:List HD)(x:Nat×List Str):List (List Int):=match ds[x.1]? with
  | some d=>colP d (putP f outs x.2 x.1 d.words)
  | none=>[]
def vf(ds:List HD)(x:Nat×List Str):Nat:=match ds[x.1]? with
  | some d=>d.words.length
  | none=>0
theorem jq{f:List Str->Str}{outs:List Str}{ds:List HD}{k:Nat}{o:List Str}{d:HD}(h:ds[k]? = some d):xl f outs ds (k,o)=colP d (putP f outs o k d.words):=by rw[xl];simp only[h]
theorem j9{ds:List HD}{k:Nat}{o:List Str}{d:HD}(h:ds[k]? = some d):vf ds (k,o)=d.words.length:=by rw[vf];simp only[h]
def zbi(f:List Str->Str)(rs:List (List Str))(outs:List Str)(ds:List HD):Prop:=∀(k:Nat) (d:HD) (o:List Str),ds[k]? = some d->o∈zx ((ds.eraseIdx k).map HD.words)->am f rs outs o k d
structure GridsAt(H:Hp)(as:List Addr)(xs:List (Nat×List Str))(F:Nat×List Str->List (List Int)):Prop where
  len:as.length=xs.length
  at':∀(i:Nat) (a:Addr) (x:Nat×List Str),as[i]? = some a->xs[i]? = some x->∃c g ls,H a=some (.tup [.int x.1,.ref c,.ref g])/\H c=some (.tup (x.2.map V.str))/\H g=some (.lst (ls.map V.ref))/\IntsAt H ls (F x)
theorem GridsAt.mono{H H':Hp}{as:List Addr}{xs:List (Nat×List Str)}{F:Nat×List Str->List (List Int)}(S:Same H H')(h:GridsAt H as xs F):GridsAt H' as xs F:=⟨h.len,fun i a x e1 e2=>by
  obtain⟨c,g,ls,h1,h2,h3,h4⟩:=h.at' i a x e1 e2
  exact⟨c,g,ls,S _ _ h1,S _ _ h2,S _ _ h3,h4.mono S⟩⟩
theorem zg3{α β:Type}{as bs:List α}{xs ys:List β}{i:Nat}{a:α}{x:β}(hl:as.length=xs.length)(e1:(as++bs)[i]? = some a)(e2:(xs++ys)[i]? = some x):(as[i]? = some a/\xs[i]? = some x)\/(bs[i-as.length]? = some a/\ys[i-as.length]? = some x):=by
  by_cases hi:i<as.length
  . rw[Zg hi]at e1
    rw[Zg (by omega)]at e2;exact .inl ⟨e1,e2⟩
  . rw[Zf (by omega)]at e1
    rw[Zf (by omega)]at e2;rw[<-hl]at e2;exact .inr ⟨e1,e2⟩
theorem GridsAt.append{H:Hp}{as bs:List Addr}{xs ys:List (Nat×List Str)}{F:Nat×List Str->List (List Int)}(h:GridsAt H as xs F)(h':GridsAt H bs ys F):GridsAt H (as++bs) (xs++ys) F:=⟨by simp[h.len,h'.len],fun i a x e1 e2=>by
  rcases zg3 h.len e1 e2 with ⟨z1,z2⟩ | ⟨z1,z2⟩
  . exact h.at' i a x z1 z2
  . exact h'.at' _ a x z1 z2⟩
theorem GridsAt.one{H:Hp}{a c g:Addr}{ls:List Addr}{x:Nat×List Str}{F:Nat×List Str->List (List Int)}(h1:H a=some (.tup [.int x.1,.ref c,.ref g]))(h2:H c=some (.tup (x.2.map V.str)))(h3:H g=some (.lst (ls.map V.ref)))(h4:IntsAt H ls (F x)):GridsAt H [a] [x] F:=⟨rfl,fun i b y e1 e2=>by
  have:i=0:=by have:=(Zc.mp e1).1;simp at this;omega
  subst this;cases e1;cases e2
  exact⟨c,g,ls,h1,h2,h3,h4⟩⟩
def bo:Sp:=fun vs H Q _=>∃(p o h t:Addr) (hs:List Addr) (outs:List Str) (ds:List HD) (f:List Str->Str) (rs:List (List Str)),vs=[.ref p,.ref t]/\HHouse H p o h hs outs ds/\GoodHouse outs ds/\H t=some (.dT (xq f rs))/\zbi f rs outs ds /\
  ∀H' l as,Same H H'->H l=none->H' l=some (.lst (as.map V.ref))->GridsAt H' as (dueK ds ds.length) (xl f outs ds)->Q (.ref l) H'
def il(rows:List (List Int))(n:Nat):Prop:=∀j,NoNeg (zz rows) n j
structure PaperAt(H:Hp)(a:Addr)(k:Nat)(c:Addr)(gs:List (Int×List Nat×Addr)):Prop where
  ex:∃pl rl,H a=some (.tup [.int k,.ref c,.ref pl,.ref rl])/\H pl=some (.lst ((gs.map fun e=>e.1).map V.int))/\H rl=some (.lst (gs.map fun e=>V.ref e.2.2))
  road:∀e∈gs,H e.2.2=some (.lst ((nI e.2.1).map V.int))
theorem PaperAt.mono{H H':Hp}{a:Addr}{k:Nat}{c:Addr}{gs:List (Int×List Nat×Addr)}(S:Same H H')(h:PaperAt H a k c gs):PaperAt H' a k c gs:=by
  obtain⟨pl,rl,h1,h2,h3⟩:=h.ex;exact⟨⟨pl,rl,S _ _ h1,S _ _ h2,S _ _ h3⟩,fun e he=>S _ _ (h.road e he)⟩
def zdv(K:Fg):Sp:=fun vs H Q _=>∃(k:Nat) (c g:Addr) (rows:List (List Int)) (n:Nat),vs=[.int k,.ref c,.ref g]/\Gd K H g rows n/\0<n/\il rows n/\∀H' a gs,Same H H'->PaperAt H' a k c gs->Great rows n gs->Q (.ref a) H'
structure PapersAt(H:Hp)(as:List Addr)(xs:List (Nat×List Str))(F:Nat×List Str->List (List Int))(W:Nat×List Str->Nat):Prop where
  len:as.length=xs.length
  at':∀(i:Nat) (a:Addr) (x:Nat×List Str),as[i]? = some a->xs[i]? = some x->∃c gs,PaperAt H a x.1 c gs/\H c=some (.tup (x.2.map V.str))/\Great (F x) (W x) gs
theorem PapersAt.mono{H H':Hp}{as:List Addr}{xs:List (Nat×List Str)}{F:Nat×List Str->List (List Int)}{W:Nat×List Str->Nat}(S:Same H H')(h:PapersAt H as xs F W):PapersAt H' as xs F W:=⟨h.len,fun i a x e1 e2=>by
  obtain⟨c,gs,h1,h2,h3⟩:=h.at' i a x e1 e2
  exact⟨c,gs,h1.mono S,S _ _ h2,h3⟩⟩
theorem PapersAt.snoc{H:Hp}{as:List Addr}{xs:List (Nat×List Str)}{F:Nat×List Str->List (List Int)}{W:Nat×List Str->Nat}{a c:Addr}{x:Nat×List Str}{gs:List (Int×List Nat×Addr)}(h:PapersAt H as xs F W)(h1:PaperAt H a x.1 c gs)(h2:H c=some (.tup (x.2.map V.str)))(h3:Great (F x) (W x) gs):PapersAt H (as++[a]) (xs++[x]) F W:=⟨by simp[h.len],fun i b y e1 e2=>by
  rcases zg3 h.len e1 e2 with ⟨z1,z2⟩ | ⟨z1,z2⟩
  . exact h.at' i b y z1 z2
  . have:i-as.length=0:=by have:=(Zc.mp z1).1;simp at this;omega
    rw[this]at z1 z2;cases z1;cases z2
    exact⟨c,gs,h1,h2,h3⟩⟩
def bz(K:Fg):Sp:=fun vs H Q _=>∃(p o h t:Addr) (hs:List Addr) (outs:List Str) (ds:List HD) (f:List Str->Str) (rs:List (List Str)),vs=[.ref p,.ref t]/\HHouse H p o h hs outs ds/\GoodHouse outs ds/\H t=some (.dT (xq f rs))/\zbi f rs outs ds /\
  (∀H' tp l as,Same H H'->H' tp=some (.tup [.str "pays", .ref l])->H' l=some (.lst (as.map V.ref))->PapersAt H' as (dueK ds ds.length) (xl f outs ds) (vf ds)->Q (.ref tp) H') /\
  ∀(H':Hp) (tp c l:Addr) (i:Nat) (x:Nat×List Str) (cy:List Nat),Same H H'->(dueK ds ds.length)[i]? = some x->(∀(j:Nat) (y:Nat×List Str),j<i->(dueK ds ds.length)[j]? = some y->il (xl f outs ds y) (vf ds y))->H' tp=some (.tup [.str "ring", .int x.1,.ref c,.ref l])->H' c=some (.tup (x.2.map V.str))->H' l=some (.lst ((nI cy).map V.int))->RingA (zz (xl f outs ds x)) (vf ds x) cy->Q (.ref tp) H'
theorem fe{outs:List Str}{ds:List HD}(G:GoodHouse outs ds):∀m,m<=ds.length->(dueK ds m).length<=m*4096
  | 0,_=>by simp[dueK]
  | m+1,h=>by
    have ih:=fe G m (by omega);have h4:=G.hands.2
    have few:=ua (wss:=(ds.eraseIdx m).map HD.words) (by rw[Za,ZL (by omega)];omega) (fun ws hws=>by
      obtain⟨d,hd,rfl⟩:=Zp.mp hws
      exact(G.words1 d (ZO hd)).2) _ (Zm _)
    rw[Zt]at few;rw[bg,Zo,Za];omega
theorem g9{ds:List HD}{m:Nat}{x:Nat×List Str}(h:x∈dueK ds m):x.1<m/\x.2∈zx ((ds.eraseIdx x.1).map HD.words):=by
  rw[dueK,List.mem_flatMap]at h;obtain⟨k,hk,h⟩:=h;obtain⟨o,ho,rfl⟩:=Zp.mp h;exact⟨ZV.mp hk,ho⟩
theorem GridsAt.past{H:Hp}{l:Addr}{o:HO}{as0 cs:List Addr}{xs:List (Nat×List Str)}{F:Nat×List Str->List (List Int)}(hl:H l=some (.lst (as0.map V.ref)))(h0:∀a∈as0,∃us,H a=some (.tup us))(ne:∀x∈xs,F x≠[]/\∀r∈F x,r≠[])(h:GridsAt H cs xs F):GridsAt (upd H l o) cs xs F:=⟨h.len,fun i a x e1 e2=>by
  obtain⟨c,g,ls,h1,h2,h3,h4⟩:=h.at' i a x e1 e2;obtain⟨n1,n2⟩:=ne x (Zi e2);have k1:a≠l:=fun e=>by rw[e,hl]at h1;cases h1
  have k2:c≠l:=fun e=>by rw[e,hl]at h2;cases h2
  have k4:∀r∈ls,r≠l:=fun r hr e=>by
    obtain⟨j,hj,rfl⟩:=Zy hr;have hj2:j<(F x).length:=by rw[<-h4.len];exact hj
    have:=h4.at' j _ _ (Zb hj) (Zb hj2);rw[e,hl]at this;have nz:=n2 _ (Zl hj2);generalize (F x)[j]=p at *
    cases p with
    | nil=>exact nz rfl
    | cons z p=>cases as0 <;> simp at this
  have k3:g≠l:=fun e=>by
    rw[e,hl]at h3;have z:as0.map V.ref=ls.map V.ref:=by simpa using h3
    have hl0:0<ls.length:=by
      rw[h4.len]
      cases e:F x with
      | nil=>exact absurd e n1
      | cons _ _=>simp
    have hl1:0<as0.length:=by have:=congrArg List.length z;simp at this;omega
    have hj2:0<(F x).length:=by rw[<-h4.len];exact hl0
    have r1:=h4.at' 0 _ _ (Zb hl0) (Zb hj2)
    have ee:as0[0]=ls[0]:=by
      have:=congrArg (fun q=>q[0]?) z
      simpa[Ze,Zb hl0,Zb hl1] using this
    obtain⟨us,hu⟩:=h0 _ (Zl hl1);rw[ee,r1]at hu;cases hu
  refine⟨c,g,ls,by rw[zp k1];exact h1,by rw[zp k2];exact h2,by rw[zp k3];exact h3,h4.len,fun j r p e3 e4 => ?_⟩;rw[zp (k4 r (Zi e3))]
  exact h4.at' j r p e3 e4⟩
theorem GridsAt.tup{H:Hp}{as:List Addr}{xs:List (Nat×List Str)}{F:Nat×List Str->List (List Int)}(h:GridsAt H as xs F):∀a∈as,∃us,H a=some (.tup us):=fun a ha=>by
  obtain⟨j,hj,rfl⟩:=Zy ha;have hj2:j<xs.length:=by rw[<-h.len];exact hj
  obtain⟨c,g,ls,h1,_⟩:=h.at' j _ _ (Zb hj) (Zb hj2);exact⟨_,h1⟩
theorem a7{f:List Str->Str}{outs:List Str}{ds:List HD}(G:GoodHouse outs ds){x:Nat×List Str}(h:x.1<ds.length):xl f outs ds x≠[]/\∀r∈xl f outs ds x,r≠[]:=by
  obtain⟨k,o⟩:=x;have hd:ds[k]? = some ds[k]:=Zb h;have hm:=Zl h;have w1:=(G.words1 _ hm).1;have ro:=G.rows _ hm;rw[jq hd];generalize ds[k]=d at *;refine⟨fun e => ?_,fun r hr e => ?_⟩
  . have:=congrArg List.length e
    rw[colP,Za]at this;simp at this;rw[this]at ro;simp at ro;omega
  . obtain⟨r',_,rfl⟩:=Zp.mp hr
    have:=congrArg List.length e;rw[Za,putP,Za]at this;simp at this;rw[this]at w1;simp at w1
def PvGs(p t:Addr)(ds:List HD)(F:Nat×List Str->List (List Int))(H:Hp)(i:Nat)(σ:L2.St)(H':Hp):Prop:=∃(l:Addr) (as:List Addr) (v:Option V),Same H H'/\H l=none/\H' l=some (.lst (as.map V.ref))/\GridsAt H' as (dueK ds i) F/\σ=[some (.ref p),some (.ref t),some (.ref l),v]
def PvG3(k:Nat)(os:List (List Str))(F:Nat×List Str->List (List Int))(H:Hp)(i:Nat)(ys:List V)(H':Hp):Prop:=Same H H'/\∃as:List Addr,ys=as.map V.ref/\GridsAt H' as ((os.take i).map fun o=>(k,o)) F
section
variable{P:Program}{w:World}{K:Fg}{mg:Str->Option Value}{base:Heap}{a:Ad}
theorem jd (B:Bt mg) (f_hands_of:FnAt P w K mg base "hands_of" 1 ["house"] (xm K 1)) (ij:FnAt P w K mg base "grid_of" 3 ["house", "table", "k", "others"] zbn) (ur:FnAt P w K mg base "others_of" 3 ["house", "k"] (jh K)) (D:ze K mg "grids_of" oj ["house", "table"]):FnAt P w K mg base "grids_of" 4 ["house", "table"] bo:=by
  refine FnAt.of D sc_grids_of (fun vs H Q E h => ?_) (fun f cdv A outer s H vs Q E hr h => ?_)
  . obtain⟨p,o,h,t,hs,outs,ds,f,rs,rfl,_⟩:=h
    rfl
  . obtain⟨p,o,h,t,hs,outs,ds,f,rs,rfl,hH,G,ht,hD,q⟩:=h
    refine⟨_,(@zj _ _ _ _ _ (zy (i:=2) sc_grids_of.nd rfl (Or.inl rfl) (@xp _ _ _ _ (@zb _))) (@zj _ _ _ _ _ (xc PassesOwn.never rfl (yv rfl B.range (za (zr zw rfl B.len yd (za (zh f_hands_of (hr.mono (by decide)) rfl (za (pv 0) (@zb _))) (@zb _))) (@zb _))) (zn (i:=3) sc_grids_of.nd rfl (Or.inr rfl)) (@zi _ _ _ (r6 (jb PySem.F.plainAttrs_list PySem.F.slot_list_extend PySem.F.type_list_extend ba (pv 2) (za (yh ["others"] ["house", "table", "grids", "k"] rfl (@yb _ _ _ _ (zh ur (hr.mono (by decide)) rfl (za (pv 0) (za (pv 3) (@zb _))))) (fun _=>(zn (i:=0) (show(["others", "house", "table", "grids", "k"]:List Str).Nodup by decide +kernel) rfl (Or.inl rfl))) (fun _=>(@z8 _)) (fun _=>(@y6 _ _ _ _ _ (za (pv 4) (za (pv 0) (za (zh ij (hr.mono (by decide)) rfl (za (pv 1) (za (pv 2) (za (pv 4) (za (pv 0) (@zb _)))))) (@zb _)))))) rfl (by decide +kernel) rfl rfl) (@zb _)))))) (@zi _ _ _ (@zm _ _ _ _ (pv 2))))),?_⟩;rw[show start ["house", "table", "grids", "k"] [V.ref p,V.ref t]=[some (V.ref p),some (V.ref t),none,none] from rfl];simp only[zg,zf,↓reduceIte];refine⟨by decide,fun l0 hl0 => ?_⟩;have S1:Same H (upd H l0 (.lst [])):=Same.upd (Same.refl _) hl0;have h1:upd H l0 (.lst []) l0=some (.lst (([]:List Addr).map V.ref)):=zc;generalize upd H l0 (.lst [])=H1 at *;have hH1:=hH.mono S1;have h4:=G.hands.2;refine⟨p,_,_,rfl,.of hH1.tup,rfl,h,rfl,_,.inr (.of hH1.hands),?_⟩;rw[Za,hH1.hand.1];refine⟨by omega,by omega,?_⟩;rw[Zw];refine xx (PvGs p t ds (xl f outs ds) H) ⟨l0,[],_,S1,hl0,h1,⟨rfl,fun i a x e=>by simp at e⟩,rfl⟩ ?_ ?_
    . rintro k σ H2 hk ⟨l,as,v,S2,hn,h2,G2,rfl⟩
      have hd:ds[k]? = some ds[k]:=Zb hk;have hH2:=hH.mono S2;simp only[zg,zf,↓reduceIte];refine⟨.inl ⟨rfl,_,.of h2⟩,?_⟩;refine⟨p,o,h,hs,outs,ds,k,rfl,hH2.k,hk,h4,fun d hd=>(G.words1 d hd).2,fun H3 rl bs S3 _ R3=>⟨rl,rfl,⟨_,.of R3.lst⟩,fun dd => ?_⟩⟩
      have few:=ua (wss:=(ds.eraseIdx k).map HD.words) (by rw[Za,ZL hk];omega) (fun ws hws=>by
        obtain⟨d,hd,rfl⟩:=Zp.mp hws
        exact(G.words1 d (ZO hd)).2) _ (Zm _)
      rw[Zt]at few;have hin:∀r∈zx ((ds.eraseIdx k).map HD.words),am f rs outs r k ds[k]:=fun r hr=>hD k _ r hd hr
      have hsu:=bg ds k;have fk:=fe G k (by omega);generalize zx ((ds.eraseIdx k).map HD.words)=os at *;refine yf (xs:=bs.map V.ref) (PvG3 k os (xl f outs ds) H3) ⟨Same.refl _,[],rfl,rfl,fun i a x e=>by simp at e⟩ ?_ ?_ ?_
      . rintro i ys H4 hi ⟨S4,cs,rfl,T4⟩
        refine⟨?_,.of (S4 _ _ R3.lst)⟩;rw[Za,T4.len,Za,Zj];exact Zd (ZB _ _) (Zd few (by decide))
      . rintro i y ys H4 hy ⟨S4,cs,rfl,T4⟩
        obtain⟨c,hc,rfl⟩:=qc hy;have hi:i<os.length:=by have:=(Zc.mp hc).1;have:=R3.tups.len;omega
        have eo:os[i]? = some os[i]:=Zb hi;have hc4:=S4 _ _ (R3.tups.at' i c _ hc eo);have hdl:=hin _ (Zl hi);have S24:=S2.trans (S3.trans S4);simp only[zg,zf,↓reduceIte];refine⟨p,o,h,t,c,hs,outs,ds,f,rs,os[i],k,ds[k],rfl,hH.mono S24,G,S24 _ _ ht,hd,hc4,hdl,fun H5 g ls S5 hg I5=>⟨by decide,fun tp htp => ?_⟩⟩;have S6:Same H5 (upd H5 tp (.tup [V.int k,V.ref c,V.ref g])):=Same.upd (Same.refl _) htp;refine⟨S4.trans (S5.trans S6),cs++[tp],by simp,?_⟩;rw[Zq,eo,Zn];exact(T4.mono (S5.trans S6)).append (GridsAt.one (x:=(k,os[i])) zc ((S5.trans S6) _ _ hc4) (S6 _ _ hg) (by rw[jq hd];exact I5.mono S6))
      . rintro ys H4 ⟨S4,cs,rfl,T4⟩ l2 hl2
        rw[Za,R3.tups.len,Zt]at T4;have S5:Same H4 (upd H4 l2 (.lst (cs.map V.ref))):=Same.upd (Same.refl _) hl2;have h5:upd H4 l2 (.lst (cs.map V.ref)) l2=some (.lst (cs.map V.ref)):=zc;generalize upd H4 l2 (.lst (cs.map V.ref))=H5 at *;have S25:=S3.trans (S4.trans S5);have hl5:=S25 _ _ h2;have GG:=(G2.mono S25).append (T4.mono S5);rw[<-hsu]at GG;refine⟨_,hl5,_,h5,?_,l,as++cs,_,Same.upd (S2.trans S25) hn,hn,by rw[zc,Zn],?_,rfl⟩
        . rw[Za,Za,G2.len,T4.len,Za]
          exact Zd (show _<=4*4096+4096 by omega) (by decide)
        . exact GG.past hl5 (G2.mono S25).tup fun x hx=>a7 G (by have:=(g9 hx).1;omega)
    . rintro σ H2 ⟨l,as,v,S2,hn,h2,G2,rfl⟩
      simp only[zg,zf,↓reduceIte];exact q H2 l as S2 hn h2 G2
end
theorem zh8{rows:List (List Int)}{n:Nat}{c:List Nat}(no:il rows n)(R:RingA (zz rows) n c):False:=by
  have h1:=NoNeg.rnd (no c.length) rfl R.lt;have:=R.neg;omega
theorem zdt{ns:List Int}{as0:List Addr}(h:ns.map V.int=as0.map V.ref):ns=[]:=by
  cases ns with
  | nil=>rfl
  | cons z p=>cases as0 <;> simp at h
theorem PaperAt.past{H:Hp}{l a c:Addr}{o:HO}{k:Nat}{as0:List Addr}{gs:List (Int×List Nat×Addr)}(hl:H l=some (.lst (as0.map V.ref)))(h0:∀a∈as0,∃us,H a=some (.tup us))(h:PaperAt H a k c gs)(ne:gs≠[])(nr:∀e∈gs,e.2.1≠[]):PaperAt (upd H l o) a k c gs:=by
  obtain⟨pl,rl,h1,h2,h3⟩:=h.ex;have k1:a≠l:=fun e=>by rw[e,hl]at h1;cases h1
  have k2:pl≠l:=fun e=>by
    rw[e,hl]at h2;have z:as0.map V.ref=(gs.map fun e=>e.1).map V.int:=by simpa using h2
    have:=zdt z.symm;simp at this;exact ne this
  have k4:∀e∈gs,e.2.2≠l:=fun e he q=>by
    have hr:=h.road e he;rw[q,hl]at hr;have z:as0.map V.ref=(nI e.2.1).map V.int:=by simpa using hr
    have:=zdt z.symm;rw[nI]at this;simp at this;exact nr e he this
  have k3:rl≠l:=fun e=>by
    rw[e,hl]at h3;have z:as0.map V.ref=gs.map fun e=>V.ref e.2.2:=by simpa using h3
    cases gs with
    | nil=>exact ne rfl
    | cons g gs =>
      cases as0 with
      | nil=>simp at z
      | cons b as0 =>
        simp at z;obtain⟨us,hu⟩:=h0 b ZA;have hr:=h.road g ZA;rw[<-z.1,hu]at hr;cases hr
  exact⟨⟨pl,rl,by rw[zp k1];exact h1,by rw[zp k2];exact h2,by rw[zp k3];exact h3⟩,fun e he=>by rw[zp (k4 e he)];exact h.road e he⟩
theorem Great.ne{rows:List (List Int)}{n:Nat}{gs:List (Int×List Nat×Addr)}(g:Great rows n gs)(h:0<n):gs≠[]/\∀e∈gs,e.2.1≠[]:=by
  refine⟨fun e => ?_,fun e he q => ?_⟩
  . have:=g.len
    rw[e]at this;simp at this;omega
  . obtain⟨t,ht,rfl⟩:=Zy he
    obtain⟨s,ws,e1,_⟩:=(g.rds.rd t (by rw[<-g.len];exact ht)).ex;rw[vy (Zb ht)]at e1;have e1':(gs[t]).2.1=s::ws:=e1;rw[q]at e1';cases e1'
theorem PapersAt.past{H:Hp}{l:Addr}{o:HO}{as0 as:List Addr}{xs:List (Nat×List Str)}{F:Nat×List Str->List (List Int)}{W:Nat×List Str->Nat}(hl:H l=some (.lst (as0.map V.ref)))(h0:∀a∈as0,∃us,H a=some (.tup us))(hw:∀x∈xs,0<W x)(h:PapersAt H as xs F W):PapersAt (upd H l o) as xs F W:=⟨h.len,fun i a x e1 e2=>by
  obtain⟨c,gs,h1,h2,h3⟩:=h.at' i a x e1 e2;obtain⟨n1,n2⟩:=h3.ne (hw x (Zi e2))
  exact⟨c,gs,h1.past hl h0 n1 n2,by rw[zp (fun e=>by rw[e,hl]at h2;cases h2)];exact h2,h3⟩⟩
theorem PapersAt.tup{H:Hp}{as:List Addr}{xs:List (Nat×List Str)}{F:Nat×List Str->List (List Int)}{W:Nat×List Str->Nat}(h:PapersAt H as xs F W):∀a∈as,∃us,H a=some (.tup us):=fun a ha=>by
  obtain⟨j,hj,rfl⟩:=Zy ha;have hj2:j<xs.length:=by rw[<-h.len];exact hj
  obtain⟨c,gs,h1,_⟩:=h.at' j _ _ (Zb hj) (Zb hj2);obtain⟨pl,rl,z,_⟩:=h1.ex;exact⟨_,z⟩
theorem k9{outs:List Str}{ds:List HD}(G:GoodHouse outs ds){x:Nat×List Str}(h:x.1<ds.length):0<vf ds x/\vf ds x<=8:=by
  obtain⟨k,o⟩:=x;rw[j9 (Zb h)];have:=G.words1 _ (Zl h);omega
theorem zhu{K:Fg}{H:Hp}{g:Addr}{ls:List Addr}{f:List Str->Str}{outs:List Str}{ds:List HD}(G:GoodHouse outs ds){x:Nat×List Str}(h:x.1<ds.length)(hg:H g=some (.lst (ls.map V.ref)))(I:IntsAt H ls (xl f outs ds x)):Gd K H g (xl f outs ds x) (vf ds x):=by
  have h8:=(k9 G h).2;obtain⟨k,o⟩:=x;have hd:ds[k]? = some ds[k]:=Zb h;have ro:=G.rows _ (Zl h);have e1:=jq (f:=f) (outs:=outs) (o:=o) hd;have e2:=j9 (o:=o) hd;have lr:(xl f outs ds (k,o)).length=vf ds (k,o):=by rw[e1,e2,colP,Za];exact ro
  refine⟨⟨ls,⟨.of hg,by rw[I.len],fun i r ns a1 a2=>.of (I.at' i r ns a1 a2)⟩,by rw[I.len,lr]⟩,fun i hi=>⟨(xl f outs ds (k,o))[i]'(by omega),Zb (by omega),?_⟩,h8⟩;have hm:(xl f outs ds (k,o))[i]'(by omega)∈xl f outs ds (k,o):=Zl _;generalize (xl f outs ds (k,o))[i]'(by omega)=r at *;rw[e1]at hm;obtain⟨r',_,rfl⟩:=Zp.mp hm;rw[Za,putP,Za,e2]
def PvVd(p t l gl:Addr)(gas:List Addr)(xs:List (Nat×List Str))(F:Nat×List Str->List (List Int))(W:Nat×List Str->Nat)(H:Hp)(i:Nat)(σ:L2.St)(H':Hp):Prop:=∃(as:List Addr) (v1 v2 v3 v4:Option V),Same H H'/\H' l=some (.lst (as.map V.ref))/\H' gl=some (.lst (gas.map V.ref))/\GridsAt H' gas xs F/\PapersAt H' as (xs.take i) F W/\(∀(j:Nat) (y:Nat×List Str),j<i->xs[j]? = some y->il (F y) (W y))/\σ=[some (.ref p),some (.ref t),some (.ref l),v1,v2,v3,v4]
section
variable{P:Program}{w:World}{K:Fg}{mg:Str->Option Value}{base:Heap}{a:Ad}
theorem cr (B:Bt mg) (jp:FnAtX P w K mg base "greatest" 7 ["grid"] (zc4 a K)) (D:ze K mg "paper" iu ["k", "others", "grid"]):FnAt P w K mg base "paper" 8 ["k", "others", "grid"] (zdv K):=by
  refine FnAt.of D sc_paper (fun vs H Q E h => ?_) (fun f cdv A outer s H vs Q E hr h => ?_)
  . obtain⟨k,c,g,rows,n,rfl,_⟩:=h
    rfl
  . obtain⟨k,c,g,rows,n,rfl,hG,h0,no,q⟩:=h
    refine⟨_,(@zj _ _ _ _ _ (zy (i:=3) sc_paper.nd rfl (Or.inl rfl) (fc jp (hr.mono (by decide)) rfl (za (pv 2) (@zb _)))) (@zi _ _ _ (@zm _ _ _ _ (@y6 _ _ _ _ _ (za (pv 0) (za (pv 1) (za (@z0 _ _ _ _ _ _ _ ym (pv 3) (@zd _ _ _ _) (fun _ _=>rfl)) (za (@z0 _ _ _ _ _ _ _ ym (pv 3) (@zd _ _ _ _) (fun _ _=>rfl)) (@zb _))))))))),?_⟩;rw[show start ["k", "others", "grid", "told"] [V.int k,V.ref c,V.ref g]=[some (V.int k),some (V.ref c),some (V.ref g),none] from rfl];simp only[zg,zf,↓reduceIte];refine⟨g,rows,n,rfl,hG,h0,fun H1 v gs S1 Td Gt => ?_,fun H1 cc S1 R=>(zh8 no R).elim⟩;obtain⟨tp,pl,rl,rfl,d1,d2,d3⟩:=Td.ex;simp only[zg,zf,↓reduceIte];refine⟨_,.of d1,_,rfl,_,.of d1,_,rfl,by decide,fun p hp => ?_⟩;have S2:Same H1 (upd H1 p (.tup [V.int k,V.ref c,V.ref pl,V.ref rl])):=Same.upd (Same.refl _) hp;exact q _ p gs (S1.trans S2) ⟨⟨pl,rl,zc,S2 _ _ d2,S2 _ _ d3⟩,fun e he=>S2 _ _ (Td.road e he)⟩ Gt
theorem jy (B:Bt mg) (jd:FnAt P w K mg base "grids_of" 4 ["house", "table"] bo) (ie:FnAt P w K mg base "ring" 5 ["grid"] (zbt K)) (cr:FnAt P w K mg base "paper" 8 ["k", "others", "grid"] (zdv K)) (D:ze K mg "verdict" l5 ["house", "table"]):FnAt P w K mg base "verdict" 9 ["house", "table"] (bz K):=by
  refine FnAt.of D sc_verdict (fun vs H Q E h => ?_) (fun f cdv A outer s H vs Q E hr h => ?_)
  . obtain⟨p,o,h,t,hs,outs,ds,f,rs,rfl,_⟩:=h
    rfl
  . obtain⟨p,o,h,t,hs,outs,ds,f,rs,rfl,hH,G,ht,hD,q1,q2⟩:=h
    refine⟨_,(@zj _ _ _ _ _ (zy (i:=2) sc_verdict.nd rfl (Or.inl rfl) (@xp _ _ _ _ (@zb _))) (@zj _ _ _ _ _ (xc PassesOwn.never rfl (@yb _ _ _ _ (zh jd (hr.mono (by decide)) rfl (za (pv 0) (za (pv 1) (@zb _))))) (si rfl (y0 (zn (i:=3) sc_verdict.nd rfl (Or.inl rfl)) (y0 (zn (i:=4) sc_verdict.nd rfl (Or.inl rfl)) (y0 (zn (i:=5) sc_verdict.nd rfl (Or.inl rfl)) (@uk _))))) (@zj _ _ _ _ _ (zy (i:=6) sc_verdict.nd rfl (Or.inl rfl) (zh ie (hr.mono (by decide)) rfl (za (pv 5) (@zb _)))) (@zj _ _ _ _ _ (@yu _ _ _ _ _ _ _ _ (@yp _ _ _ _ _ _ _ _ cq (pv 6) (@ph _ _ _) (yk _)) (@zi _ _ _ (@zm _ _ _ _ (@y6 _ _ _ _ _ (za (@u0 _ _ _ _) (za (pv 3) (za (pv 4) (za (pv 6) (@zb _)))))))) (@yg _)) (@zi _ _ _ (r6 (jb PySem.F.plainAttrs_list PySem.F.slot_list_append PySem.F.type_list_append my (pv 2) (za (zh cr (hr.mono (by decide)) rfl (za (pv 3) (za (pv 4) (za (pv 5) (@zb _))))) (@zb _)))))))) (@zi _ _ _ (@zm _ _ _ _ (@y6 _ _ _ _ _ (za (@u0 _ _ _ _) (za (pv 2) (@zb _)))))))),?_⟩;rw[show start ["house", "table", "papers", "k", "others", "grid", "found"] [V.ref p,V.ref t]=[some (V.ref p),some (V.ref t),none,none,none,none,none] from rfl];simp only[zg,zf,↓reduceIte];refine⟨by decide,fun l0 hl0 => ?_⟩;have S1:Same H (upd H l0 (.lst [])):=Same.upd (Same.refl _) hl0;have h1:upd H l0 (.lst []) l0=some (.lst (([]:List Addr).map V.ref)):=zc;generalize upd H l0 (.lst [])=H1 at *;refine⟨p,o,h,t,hs,outs,ds,f,rs,rfl,hH.mono S1,G,S1 _ _ ht,hD,fun H2 gl gas S2 ngl hgl GA=>⟨gl,rfl,⟨_,.of hgl⟩,?_⟩⟩;have S12:=S1.trans S2;have hgn:gl≠l0:=fun e=>by rw[e,h1]at ngl;cases ngl
    have hmem:∀x∈dueK ds ds.length,x.1<ds.length:=fun x hx=>(g9 hx).1
    have hfew:=fe G _ (Zm _);have h4:=G.hands.2;generalize dueK ds ds.length=xs at *;have hne:∀x∈xs,xl f outs ds x≠[]/\∀r∈xl f outs ds x,r≠[]:=fun x hx=>a7 G (hmem x hx)
    refine w9 (xs:=gas.map V.ref) (PvVd p t l0 gl gas xs (xl f outs ds) (vf ds) H) ⟨[],_,_,_,_,S12,S2 _ _ h1,hgl,GA,⟨rfl,fun i a x e=>by simp at e⟩,fun j y h=>absurd h (Yy _),rfl⟩ ?_ ?_ ?_
    . rintro i σ H3 hi ⟨as,v1,v2,v3,v4,S3,h3,hg3,GA3,P3,no,rfl⟩
      exact .of hg3
    . rintro i y σ H3 hy ⟨as,v1,v2,v3,v4,S3,h3,hg3,GA3,P3,no,rfl⟩
      obtain⟨c,hc,rfl⟩:=qc hy;have hi:i<xs.length:=by have:=(Zc.mp hc).1;have:=GA3.len;omega
      have ex:xs[i]? = some xs[i]:=Zb hi;have hk:=hmem _ (Zl hi);obtain⟨cc,g,ls,t1,t2,t3,I3⟩:=GA3.at' i c _ hc ex;have hwp:=k9 G hk;have GD:Gd K H3 g (xl f outs ds xs[i]) (vf ds xs[i]):=zhu G hk t3 I3;generalize hx:xs[i]=x at *;simp only[zg,zf,↓reduceIte];refine⟨_,.of t1,rfl,_,_,rfl,_,_,rfl,_,_,rfl,rfl,g,_,_,rfl,GD,hwp.1,fun H4 S4 nn => ?_,fun H4 l4 cy S4 h4' R => ?_⟩
      . have nr:il (xl f outs ds x) (vf ds x):=NoNeg.all nn
        refine ite2 (fun h=>absurd h (by simp)) fun _=>⟨.inl ⟨rfl,_,.of (S4 _ _ h3)⟩,x.1,cc,g,_,_,rfl,GD.mono S4,hwp.1,nr,fun H5 pa gs S5 hp5 Gt => ?_⟩
        have S45:=S4.trans S5;have hl5:=S45 _ _ h3;have P5:=P3.mono S45;have GA5:=GA3.mono S45;refine⟨_,hl5,?_,as++[pa],_,_,_,_,Same.upd (S3.trans S45) hl0,by rw[zc,Zn];rfl,by rw[zp hgn];exact S45 _ _ hg3,GA5.past hl5 P5.tup hne,?_,fun j y hj ey => ?_,rfl⟩
        . rw[Za,P5.len,Zj]
          exact YC (show _<=4*4096 by omega) (by decide)
        . rw[Zq,ex]
          exact(P5.snoc (x:=x) hp5 (S45 _ _ t2) Gt).past hl5 P5.tup fun z hz=>by
            rcases ZH.mp hz with q | q
            . exact(k9 G (hmem z (List.mem_of_mem_take q))).1
            . rw[ZC.mp q];exact hwp.1
        . by_cases e:j=i
          . subst e
            rw[ex]at ey;cases ey;exact nr
          . exact no j y (by omega) ey
      . refine ite2 (fun _=>⟨by decide,fun tp htp => ?_⟩) fun h=>absurd (by simp:(!decide (V.ref l4=V.non))=true) h
        have S5:Same H4 (upd H4 tp (.tup [V.str (Str.ofString "ring"),V.int x.1,V.ref cc,V.ref l4])):=Same.upd (Same.refl _) htp;exact q2 _ tp cc l4 i x cy (S3.trans (S4.trans S5)) ex no zc ((S4.trans S5) _ _ t2) (S5 _ _ h4') R
    . rintro σ H3 ⟨as,v1,v2,v3,v4,S3,h3,hg3,GA3,P3,no,rfl⟩
      simp only[zg,zf,↓reduceIte];rw[Za,GA3.len,Zt]at P3;refine⟨by decide,fun tp htp => ?_⟩;have S5:Same H3 (upd H3 tp (.tup [V.str (Str.ofString "pays"),V.ref l0])):=Same.upd (Same.refl _) htp;exact q1 _ tp l0 as (S3.trans S5) zc (S5 _ _ h3) (P3.mono S5)
end
def cp:Sp:=fun vs H Q _=>∃(b:Addr) (xs:List HX) (ds:List HD),vs=[.ref b]/\HandsL H b xs ds/\ds.length<=4/\(∀d∈ds,d.words.length<=8)/\∀H' l as,Same H H'->RwsAt H' l as (zx (ds.map HD.words))->Q (.ref l) H'
def PvGw(b l h:Addr)(rs:List (List Str))(ws:List Str)(H:Hp)(m:Nat)(σ:L2.St)(H':Hp):Prop:=Same H H'/\∃(p:Addr) (as':List Addr) (v:Option V),RwsAt H' p as' (xu (rs.take m) ws)/\σ=[some (.ref b),some (.ref l),some (.ref h),some (.ref p),v]
def PvRo(b:Addr)(H:Hp)(ds:List HD)(i:Nat)(σ:L2.St)(H':Hp):Prop:=Same H H'/\∃(l:Addr) (as:List Addr) (v1 v2 v3:Option V),RwsAt H' l as (zx ((ds.map HD.words).take i))/\σ=[some (.ref b),some (.ref l),v1,v2,v3]
section
variable{P:Program}{w:World}{K:Fg}{mg:Str->Option Value}{base:Heap}{a:Ad}
theorem sx (D:ze K mg "_law_rows" ou ["hands"]):FnAt P w K mg base "_law_rows" 1 ["hands"] cp:=by
  refine FnAt.of D sc_law_rows (fun vs H Q E h => ?_) (fun f cdv A outer s H vs Q E hr h => ?_)
  . obtain⟨b,xs,ds,rfl,_⟩:=h
    rfl
  . obtain⟨b,xs,ds,rfl,hH,h4,h8,q⟩:=h
    refine⟨_,(@zj _ _ _ _ _ (@zy _ _ 1 _ _ _ _ sc_law_rows.nd rfl (Or.inl rfl) (@xp _ _ _ _ (@za _ _ _ _ _ (@y6 _ _ _ _ _ (@zb _)) (@zb _) (yo nofun))) rfl (Or.inl rfl)) (@zj _ _ _ _ _ (xc PassesOwn.never rfl (@yb _ _ _ _ (pv 0)) (zn (i:=2) sc_law_rows.nd rfl (Or.inl rfl)) (@zj _ _ _ _ _ (zy (i:=3) sc_law_rows.nd rfl (Or.inl rfl) (@xp _ _ _ _ (@zb _))) (@zj _ _ _ _ _ (xc PassesOwn.never rfl (@yb _ _ _ _ (pv 1)) (zn (i:=4) sc_law_rows.nd rfl (Or.inr rfl)) (@zi _ _ _ (zy (i:=3) sc_law_rows.nd rfl (Or.inl rfl) (@zk _ _ _ _ _ _ _ _ j1 (pv 3) (yh ["word"] ["hands", "rows", "hand", "grown", "row"] rfl (@yb _ _ _ _ (@z0 _ _ _ _ _ _ _ ym (pv 2) (@zd _ _ _ _) (fun _ _=>rfl))) (fun _=>(zn (i:=0) (show(["word", "hands", "rows", "hand", "grown", "row"]:List Str).Nodup by decide +kernel) rfl (Or.inl rfl))) (fun _=>(@z8 _)) (fun _=>(@zk _ _ _ _ _ _ _ _ uj (pv 5) (@y6 _ _ _ _ _ (za (pv 0) (@zb _))))) rfl (by decide +kernel) rfl rfl))))) (@zi _ _ _ (zy (i:=1) sc_law_rows.nd rfl (Or.inl rfl) (pv 3)))))) (@zi _ _ _ (@zm _ _ _ _ (pv 1))))),?_⟩;rw[show start ["hands", "rows", "hand", "grown", "row"] [V.ref b]=[some (V.ref b),none,none,none,none] from rfl];simp only[zg,zf,↓reduceIte];refine⟨by decide,fun e he => ?_⟩;have S1:Same H (upd H e (.tup [])):=Same.upd (Same.refl _) he;have t1:upd H e (.tup []) e=some (.tup []):=zc;generalize upd H e (.tup [])=H1 at *;refine⟨by decide,fun l hl => ?_⟩;have S2:Same H1 (upd H1 l (.lst [V.ref e])):=Same.upd (Same.refl _) hl;have t2:upd H1 l (.lst [V.ref e]) l=some (.lst [V.ref e]):=zc;generalize upd H1 l (.lst [V.ref e])=H2 at *;have hH2:=hH.mono (S1.trans S2);refine⟨⟨_,.of hH2.at'⟩,?_⟩;refine w9 (xs:=xs.map fun x=>V.ref x.t) (PvRo b H2 ds) ⟨Same.refl _,l,[e],_,_,_,⟨t2,TupsAt.one (S2 _ _ t1)⟩,rfl⟩ ?_ ?_ ?_
    . rintro i σ H3 hi ⟨S3,l3,as,v1,v2,v3,hR,rfl⟩
      exact .of (S3 _ _ hH2.at')
    . rintro i x σ H3 hx ⟨S3,l3,as,v1,v2,v3,hR,rfl⟩
      obtain⟨h,hh,rfl⟩:=yl hx;have hi:i<ds.length:=by have:=(Zc.mp hh).1;have:=hH.len;omega
      have ed:ds[i]? = some ds[i]:=Zb hi;have hA:=(hH2.mono S3).hand i h _ hh ed;have w8:=h8 _ (Zl hi);have ew:(ds.map HD.words)[i]? = some ds[i].words:=by rw[Ze,ed];rfl
      have hwid:=gd (ds.map HD.words) i (by rw[Za];omega)
      have few:=ua (wss:=ds.map HD.words) (by rw[Za];exact h4) (fun ws hws=>by
        obtain⟨d,hd,rfl⟩:=Zp.mp hws
        exact h8 d hd) i (by rw[Za];omega)
      simp only[zg,zf,↓reduceIte];refine⟨by decide,fun p hp => ?_⟩;have S4:Same H3 (upd H3 p (.lst [])):=Same.upd (Same.refl _) hp;have t4:upd H3 p (.lst []) p=some (.lst []):=zc;generalize upd H3 p (.lst [])=H4 at *;have hR4:=hR.mono S4;generalize hrs:zx ((ds.map HD.words).take i)=rs at *;refine⟨⟨_,.of hR4.lst⟩,?_⟩;refine w9 (xs:=as.map V.ref) (PvGw b l3 h.t rs ds[i].words H4) ⟨Same.refl _,p,[],_,⟨t4,TupsAt.nil⟩,rfl⟩ ?_ ?_ ?_
      . rintro m σ H5 hm ⟨S5,p5,as',v,hG,rfl⟩
        exact .of (S5 _ _ hR4.lst)
      . rintro m x σ H5 hx ⟨S5,p5,as',v,hG,rfl⟩
        obtain⟨r,er,rfl⟩:=yl hx;have hm:m<rs.length:=by have:=(Zc.mp er).1;have:=hR.tups.len;omega
        have er2:rs[m]? = some rs[m]:=Zb hm;have hr5:=(hR4.mono S5).tups.at' m r _ er er2;have lr5:=hwid _ (Zl hm);have h15:=(S4.trans S5) _ _ hA.tup;have h25:=(S4.trans S5) _ _ hA.words;simp only[zg,zf,↓reduceIte];refine⟨_,.of h15,_,z7 (j:=1) rfl,_,rfl,⟨_,.of h25⟩,fun d => ?_⟩;refine yf (xs:=ds[i].words.map V.str) (zfr rs[m] ds[i].words H5) ⟨[],rfl,TupsAt.nil,Same.refl _⟩ ?_ ?_ ?_
        . rintro k ys H6 hk ⟨bs,rfl,t6,S6⟩
          refine⟨?_,.of (S6 _ _ h25)⟩;rw[Za,t6.len,uo,Zj];exact Zd (ZB _ _) (Zd w8 (by decide))
        . rintro k y ys H6 hy ⟨bs,rfl,t6,S6⟩
          obtain⟨z,ez,rfl⟩:=yl hy;simp only[zg,zf,↓reduceIte];refine⟨by decide,fun u hu => ?_⟩;have S7:Same H6 (upd H6 u (.tup [V.str z])):=Same.upd (Same.refl _) hu;have t7:upd H6 u (.tup [V.str z]) u=some (.tup [V.str z]):=zc;generalize upd H6 u (.tup [V.str z])=H7 at *;refine⟨_,(S6.trans S7) _ _ hr5,_,t7,?_,fun H8 w S8 hw => ?_⟩
          . rw[Za,lr5]
            exact Zd (show i+1<=9 by omega) (by decide)
          . refine⟨bs++[w],by simp,?_,S6.trans (S7.trans S8)⟩
            rw[Zq,ez]
            show TupsAt H8 (bs++[w]) (wc _ (ds[i].words.take k++[z]))
            rw[wc,Zn];exact(t6.mono (S7.trans S8)).append (TupsAt.one (by rw[hw];simp))
        . rintro ys H6 ⟨bs,rfl,t6,S6⟩ l hl
          rw[Za,Zt]at t6;have S7:Same H6 (upd H6 l (.lst (bs.map V.ref))):=Same.upd (Same.refl _) hl;have t7:upd H6 l (.lst (bs.map V.ref)) l=some (.lst (bs.map V.ref)):=zc;generalize upd H6 l (.lst (bs.map V.ref))=H7 at *;have S57:=S6.trans S7;refine⟨_,S57 _ _ hG.lst,_,t7,?_,fun p6 hp6 => ?_⟩
          . rw[Za,Za,hG.tups.len,t6.len,uo,qz,Zj]
            have:min m rs.length*ds[i].words.length<=4096*8:=YV (by omega) w8;exact Zd (show _<=4096*8+8 by omega) (by decide)
          . have S8:Same H7 (upd H7 p6 (.lst (as'.map V.ref++bs.map V.ref))):=Same.upd (Same.refl _) hp6
            refine⟨S5.trans (S57.trans S8),p6,as'++bs,_,⟨by rw[zc,Zn],?_⟩,rfl⟩;rw[Zq,er2]
            show TupsAt _ _ (xu (rs.take m++[rs[m]]) _)
            rw[dt];exact(hG.tups.mono (S57.trans S8)).append (t6.mono (S7.trans S8))
      . rintro σ H5 ⟨S5,p5,as',v,hG,rfl⟩
        simp only[zg,zf,↓reduceIte];rw[Za,hR.tups.len,Zt]at hG;refine⟨S3.trans (S4.trans S5),p5,as',_,_,_,?_,rfl⟩;rw[va ew,hrs];exact hG
    . rintro σ H3 ⟨S3,l3,as,v1,v2,v3,hR,rfl⟩
      simp only[zg,zf,↓reduceIte];rw[Za,hH.len,ZG (by rw[Za];omega)]at hR;exact q H3 l3 as (S1.trans (S2.trans S3)) hR
end
def zdl:Sp:=fun vs H Q _=>∃(p o h:Addr) (hs:List Addr) (outs:List Str) (ds:List HD) (z:Str),vs=[.ref p,.str z]/\HHouse H p o h hs outs ds/\z∈outs/\Q (.bl true) H
def zbs:Sp:=fun vs H Q _=>∃(p o h me:Addr) (hs:List Addr) (outs:List Str) (ds:List HD) (mk:List (Key×V)),vs=[.ref p,.ref me]/\HHouse H p o h hs outs ds/\H me=some (.dK mk)/\MenuOk outs mk/\0<mk.length/\mk.length<=8/\∀H',Same H H'->Q (.bl true) H'
theorem HHouse.tups{H H':Hp}{p o h:Addr}{hs:List Addr}{outs:List Str}{ds:List HD}(S:∀c xs,H c=some (.tup xs)->H' c=some (.tup xs))(q:HHouse H p o h hs outs ds):HHouse H' p o h hs outs ds :=
  ⟨S _ _ q.tup,S _ _ q.outs,S _ _ q.hands,q.hand.1,fun i t d e1 e2=>by
    obtain⟨w,g,gs,q⟩:=q.hand.2 i t d e1 e2
    exact⟨w,g,gs,S _ _ q.tup,S _ _ q.words,S _ _ q.grid,q.len,fun i r ns e1 e2=>S _ _ (q.row i r ns e1 e2)⟩⟩
structure MenusAt(H:Hp)(m:Addr)(kvs:List (List Key×V))(outs:List Str)(rs:List (List Str)):Prop where
  at':H m=some (.dT kvs)
  len:kvs.length=rs.length
  menu:∀r∈rs,∃me mk,valV kvs (ya r)=some (V.ref me)/\H me=some (.dK mk)/\MenuOk outs mk/\0<mk.length/\mk.length<=8
theorem MenusAt.mono{H H':Hp}{m:Addr}{kvs:List (List Key×V)}{outs:List Str}{rs:List (List Str)}(S:Same H H')(h:MenusAt H m kvs outs rs):MenusAt H' m kvs outs rs:=⟨S _ _ h.at',h.len,fun r hr=>by
  obtain⟨me,mk,v1,v2,v3⟩:=h.menu r hr
  exact⟨me,mk,v1,S _ _ v2,v3⟩⟩
def zgb:Sp:=fun vs H Q _=>∃(p o h m:Addr) (hs:List Addr) (outs:List Str) (ds:List HD) (k:Nat) (kvs:List (List Key×V)),vs=[.ref p,.int k,.ref m]/\HHouse H p o h hs outs ds/\GoodHouse outs ds/\k<ds.length/\MenusAt H m kvs outs (zx ((ds.eraseIdx k).map HD.words))/\∀H',Same H H'->Q (.bl true) H'
def PvAm(H:Hp)(i:Nat)(ys:List V)(H':Hp):Prop:=Same H H'/\ys=(List.replicate i true).map V.bl
def PvTr46(H:Hp)(me:Addr)(ob:Obj)(mk:List (Key×V))(i:Nat)(ys:List V)(H':Hp):Prop:=(∀c u,c≠me->H c=some u->H' c=some u)/\H' me=some (.frz ob (.dK mk))/\ys=(List.replicate i true).map V.bl
section
variable{P:Program}{w:World}{K:Fg}{mg:Str->Option Value}{base:Heap}{a:Ad}
theorem na (B:Bt mg) (f_outcomes_of:FnAt P w K mg base "outcomes_of" 1 ["house"] (xm K 0)) (D:ze K mg "is_outcome" sm ["house", "thing"]):FnAt P w K mg base "is_outcome" 2 ["house", "thing"] zdl:=by
  refine FnAt.of D ak (fun vs H Q E h => ?_) (fun f cdv A outer s H vs Q E hr h => ?_)
  . obtain⟨p,o,h,hs,outs,ds,z,rfl,_⟩:=h
    rfl
  . obtain⟨p,o,h,hs,outs,ds,z,rfl,hH,hz,q⟩:=h
    refine⟨_,(@zi _ _ _ (@zm _ _ _ _ (@pc _ _ _ _ _ _ _ (zr xf rfl B.isinstance y4 (za (pv 1) (za (sf rfl B.str zfj) (@zb _)))) (@q8 _ _ _ _ _ (@tw _ _ _ _ _ _ _ _ zfo (pv 1) (zh f_outcomes_of (hr.mono (by decide)) rfl (za (pv 0) (@zb _))) (by with_unfolding_all rfl)))))),?_⟩;rw[show start ["house", "thing"] [V.ref p,V.str z]=[some (V.ref p),some (V.str z)] from rfl];simp only[zg,zf,↓reduceIte]
    have fl:(outs.map V.str).all wv=true:=by
      rw[ZT];intro x hx;obtain⟨y,_,rfl⟩:=Zp.mp hx;rfl
    refine⟨_,.str _,true,by decide +kernel,iteT ⟨p,_,_,rfl,.of hH.tup,rfl,o,rfl,_,.inr (.of hH.outs),rfl,fl,?_⟩⟩
    have e:inV (V.str z) (outs.map V.str)=true:=by
      rw[inV,YZ];exact⟨V.str z,Zp.mpr ⟨z,hz,rfl⟩,decide_eq_true rfl⟩
    rw[if_neg (by simp),e];exact q
theorem j2 (B:Bt mg) (na:FnAt P w K mg base "is_outcome" 2 ["house", "thing"] zdl) (rm:FnAt P w K mg base "is_whole" 1 ["thing"] zay) (D:ze K mg "is_menu" mz ["house", "thing"]):FnAt P w K mg base "is_menu" 3 ["house", "thing"] zbs:=by
  refine FnAt.of D zej (fun vs H Q E h => ?_) (fun f cdv A outer s H vs Q E hr h => ?_)
  . obtain⟨p,o,h,me,hs,outs,ds,mk,rfl,_⟩:=h
    rfl
  . obtain⟨p,o,h,me,hs,outs,ds,mk,rfl,hH,hm,M,m0,m8,q⟩:=h
    refine⟨_,(@zj _ _ _ _ _ (@yu _ _ _ _ _ _ _ _ (PW.pt (@oq _ _ _ _ _ _ _ (@x6 _ _ _ _ (wm (zr xf rfl B.isinstance y4 (za (pv 1) (za (sf rfl B.dict cu) (@zb _)))))) (@se _ _ _ _ (@yp _ _ _ _ _ _ _ _ sv (zr zgr rfl B.len yd (za (pv 1) (@zb _))) (@zd _ _ _ _) (yk _))))) (@zi _ _ _ (@zm _ _ _ _ (@vv _ _ _ _))) (@yg _)) (@zi _ _ _ (@zm _ _ _ _ (zr (ud rfl) rfl B.all o8 (za (@zji _ _ _ (yh ["outcome", "price"] ["house", "thing"] rfl (zir (pv 1)) (fun _=>(si rfl (y0 (zn (i:=0) (show(["outcome", "price", "house", "thing"]:List Str).Nodup by decide +kernel) rfl (Or.inl rfl)) (y0 (zn (i:=1) (show(["outcome", "price", "house", "thing"]:List Str).Nodup by decide +kernel) rfl (Or.inl rfl)) (@uk _))))) (fun _=>(@z8 _)) (fun _=>(@pc _ _ _ _ _ _ _ (zh na (hr.mono (by decide)) rfl (za (pv 2) (za (pv 0) (@zb _)))) (@q8 _ _ _ _ _ (zh rm (hr.mono (by decide)) rfl (za (pv 1) (@zb _)))))) rfl (by decide +kernel) rfl rfl)) (@zb _)))))),?_⟩;rw[show start ["house", "thing"] [V.ref p,V.ref me]=[some (V.ref p),some (V.ref me)] from rfl];simp only[zg,zf,↓reduceIte];refine⟨_,.dK hm,true,by decide +kernel,iteF ⟨_,hm,rfl,ite2 (fun h=>absurd (of_decide_eq_true h) (by omega)) fun _=>⟨_,hm,fun ob dd => ?_⟩⟩⟩;refine zd5 (PvTr46 H me ob mk) ⟨fun c u hc h=>by rw[zp hc];exact h,zc,rfl⟩ ?_ ?_ ?_
    . rintro i ys H2 hi ⟨S2,h2,rfl⟩
      exact⟨by rw[Za,ZI];exact Zd (show i<=8 by omega) (by decide),h2⟩
    . rintro i kv ys H2 T hkv hT ⟨S2,h2,rfl⟩
      obtain⟨o',pr,ho',rfl⟩:=M.all kv (Zi hkv);have S3:Same H2 (upd H2 T (.tup [V.str o',V.int pr])):=Same.upd (Same.refl _) hT;have t3:upd H2 T (.tup [V.str o',V.int pr]) T=some (.tup [V.str o',V.int pr]):=zc
      show gTup _ _ _ _ _ (upd H2 T (.tup [V.str o',V.int pr])) _
      generalize upd H2 T (.tup [V.str o',V.int pr])=H3 at *;have hH3:HHouse H3 p o h hs outs ds:=hH.tups fun c us hc=>S3 _ _ (S2 _ _ (fun z=>by rw[z,hm]at hc;cases hc) hc)
      simp only[zg,zf,↓reduceIte];refine⟨_,.of t3,rfl,_,_,rfl,_,_,rfl,rfl,p,o,h,hs,outs,ds,o',rfl,hH3,ho',?_⟩;refine⟨true,rfl,iteT ⟨pr,rfl,fun c u hc h=>S3 _ _ (S2 c u hc h),S3 _ _ h2,?_⟩⟩;rw[YT,Zn];rfl
    . rintro ys H2 ⟨S2,h2,rfl⟩ l hl
      have hlm:l≠me:=fun z=>by rw[z,h2]at hl;cases hl
      refine⟨me,⟨_,hm⟩,ob,.dK mk,by rw[zp (Ne.symm hlm)];exact h2,List.replicate mk.length true,.of (by rw[zp hlm,zc]),?_⟩;have e:(List.replicate mk.length true).all id=true:=by simp
      rw[e];refine q _ fun c u hc => ?_
      by_cases z:c=me
      . subst z
        rw[zc,<-hc,hm]
      . rw[zp z,zp (fun y=>by rw[y]at hc;have:=S2 l u hlm hc;rw[hl]at this;cases this)]
        exact S2 c u z hc
theorem l7 (B:Bt mg) (ur:FnAt P w K mg base "others_of" 3 ["house", "k"] (jh K)) (j2:FnAt P w K mg base "is_menu" 3 ["house", "thing"] zbs) (D:ze K mg "are_menus" qu ["house", "k", "thing"]):FnAt P w K mg base "are_menus" 4 ["house", "k", "thing"] zgb:=by
  refine FnAt.of D sc_are_menus (fun vs H Q E h => ?_) (fun f cdv A outer s H vs Q E hr h => ?_)
  . obtain⟨p,o,h,m,hs,outs,ds,k,kvs,rfl,_⟩:=h
    rfl
  . obtain⟨p,o,h,m,hs,outs,ds,k,kvs,rfl,hH,G,hk,MM,q⟩:=h
    refine⟨_,(@zj _ _ _ _ _ (zy (i:=3) sc_are_menus.nd rfl (Or.inl rfl) (zh ur (hr.mono (by decide)) rfl (za (pv 0) (za (pv 1) (@zb _))))) (@zj _ _ _ _ _ (@yu _ _ _ _ _ _ _ _ (PW.pt (@oq _ _ _ _ _ _ _ (@x6 _ _ _ _ (wm (zr xf rfl B.isinstance y4 (za (pv 2) (za (sf rfl B.dict cu) (@zb _)))))) (@se _ _ _ _ (@yp _ _ _ _ _ _ _ _ dq (zr zgo rfl B.len yd (za (pv 2) (@zb _))) (zr zw rfl B.len yd (za (pv 3) (@zb _))) (yk _))))) (@zi _ _ _ (@zm _ _ _ _ (@vv _ _ _ _))) (@yg _)) (@zi _ _ _ (@zm _ _ _ _ (zr (ud rfl) rfl B.all o8 (za (yh ["others"] ["house", "k", "thing", "rows"] rfl (@yb _ _ _ _ (pv 3)) (fun _=>(zn (i:=0) (show(["others", "house", "k", "thing", "rows"]:List Str).Nodup by decide +kernel) rfl (Or.inl rfl))) (fun _=>(@z8 _)) (fun _=>(zh j2 (hr.mono (by decide)) rfl (za (pv 1) (za (zhv (hu10 hr) (pv 3) (pv 0) ⟨rfl,rfl,rfl,rfl⟩) (@zb _))))) rfl (by decide +kernel) rfl rfl) (@zb _))))))),?_⟩;rw[show start ["house", "k", "thing", "rows"] [V.ref p,V.int k,V.ref m]=[some (V.ref p),some (V.int k),some (V.ref m),none] from rfl];simp only[zg,zf,↓reduceIte];have h4:=G.hands.2;have h8:∀d∈ds,d.words.length<=8:=fun d hd=>(G.words1 d hd).2
    have few:=ua (wss:=(ds.eraseIdx k).map HD.words) (by rw[Za,ZL hk];omega) (fun ws hws=>by
      obtain⟨d,hd,rfl⟩:=Zp.mp hws
      exact h8 d (ZO hd)) _ (Zm _)
    rw[Zt]at few;refine⟨p,o,h,hs,outs,ds,k,rfl,hH.k,hk,h4,h8,fun H1 rl as S1 _ R1 => ?_⟩;have M1:=MM.mono S1;refine⟨_,.dT M1.at',true,by decide +kernel,iteF ⟨_,M1.at',rl,rfl,_,.inl (.of R1.lst),rfl,?_⟩⟩;rw[if_neg (by rw[Za,R1.tups.len,M1.len];simp)];refine⟨rl,rfl,⟨_,.of R1.lst⟩,fun dd => ?_⟩;refine yf (xs:=as.map V.ref) (PvAm H1) ⟨Same.refl _,rfl⟩ ?_ ?_ ?_
    . rintro i ys H2 hi ⟨S2,rfl⟩
      refine⟨?_,.of (S2 _ _ R1.lst)⟩;rw[Za]at hi;rw[Za,ZI];exact Zd (show i<=4096 by have:=R1.tups.len;omega) (by decide)
    . rintro i x ys H2 hx ⟨S2,rfl⟩
      obtain⟨c,hcx,rfl⟩:=yl hx;have hi:i<(zx ((ds.eraseIdx k).map HD.words)).length:=by have:=(Zc.mp hcx).1;have:=R1.tups.len;omega
      have hrow:=S2 _ _ (R1.tups.at' i c _ hcx (Zb hi));have hm:=Zl hi;generalize (zx ((ds.eraseIdx k).map HD.words))[i]=r at hrow hm;have M2:=M1.mono S2;obtain⟨me,mk,v1,v2,v3,v4,v5⟩:=M2.menu r hm;have gt:=DGet.t (k:=ya r) M2.at' (b:=c) (by rw[xw];exact hrow);rw[v1]at gt;simp only[zg,zf,↓reduceIte];refine⟨.inr ⟨_,.inl M2.at'⟩,_,gt,p,o,h,me,hs,outs,ds,mk,rfl,hH.mono (S1.trans S2),v2,v3,v4,v5,fun H3 S3=>⟨S2.trans S3,?_⟩⟩;rw[YT,Zn];rfl
    . rintro ys H2 ⟨S2,rfl⟩ l hl
      refine⟨_,.of zc,?_⟩;have e:(List.replicate (as.map V.ref).length true).all id=true:=by simp
      rw[e];exact q _ (S1.trans (S2.trans (Same.upd (Same.refl _) hl)))
end
def za1(H:Hp)(kvs:List (List Key×V))(outs:List Str)(d:HD)(k:Nat)(row:List Str)(o':Str):Prop:=∀me mk,valV kvs (ya (row.eraseIdx k))=some (V.ref me)->H me=some (.dK mk)->∃i,fq mk outs (wj d (row.getD k ⟨#[]⟩)) i o'
def zah(K:Fg):Sp:=fun vs H Q _=>∃(p o h m:Addr) (hs:List Addr) (outs:List Str) (ds:List HD) (k:Nat) (d:HD) (kvs:List (List Key×V)),vs=[.ref p,.int k,.ref m]/\HHouse H p o h hs outs ds/\GoodHouse outs ds/\ds[k]? = some d/\MenusAt H m kvs outs (zx ((ds.eraseIdx k).map HD.words)) /\
  ∀H' t f,Same H H'->H t=none->H' t=some (.dT (xq f (zx (ds.map HD.words))))->(∀r∈zx (ds.map HD.words),za1 H kvs outs d k r (f r))->Q (.ref t) H'
def PvMt(H0 H:Hp)(kvs:List (List Key×V))(outs:List Str)(d:HD)(k:Nat)(rs:List (List Str))(i:Nat)(ys:List V)(H':Hp):Prop:=Same H H'/\∃(Ts:List Addr) (f:List Str->Str),ys=Ts.map V.ref/\rg H' Ts (xq f (rs.take i))/\∀r∈rs.take i,za1 H0 kvs outs d k r (f r)
theorem zdy{f:List Str->Str}{rs:List (List Str)}{r:List Str}{z:Str}(h:r∉rs):xq (fun q=>if q=r then z else f q) rs=xq f rs:=by
  refine Yw fun q hq => ?_
  show(ya q,V.str (if q=r then z else f q))=_
  rw[if_neg fun(e:q=r)=>h (e▸hq)]
theorem ve{α β:Type}{g:α->β}:∀{l:List α} {k:Nat},(l.eraseIdx k).map g=(l.map g).eraseIdx k
  | [],_=>rfl
  | _::_,0=>rfl
  | _::l,k+1=>by simp only[List.eraseIdx_cons_succ,ZM,ve (l:=l)]
theorem bf{ds:List HD}{row:List Str}(h:row∈zx (ds.map HD.words))(k:Nat):row.eraseIdx k∈zx ((ds.eraseIdx k).map HD.words):=by
  rw[rowsP_iff]at h ⊢;rw[ve];generalize ds.map HD.words=wss at h
  by_cases hk:k<wss.length
  . refine⟨by rw[ZL hk,ZL (by rw[h.1];exact hk),h.1],fun j ws e => ?_⟩
    rw[ZS]at e
    split at e
    . rename_i hj
      obtain⟨u,h1,h2⟩:=h.2 j ws e;exact⟨u,by rw[ZS,if_pos hj];exact h1,h2⟩
    . rename_i hj
      obtain⟨u,h1,h2⟩:=h.2 (j+1) ws e;exact⟨u,by rw[ZS,if_neg hj];exact h1,h2⟩
  . rw[List.eraseIdx_of_length_le (by rw[h.1];omega),List.eraseIdx_of_length_le (by omega)]
    exact h
theorem zjt{ds:List HD}{row:List Str}(h:row∈zx (ds.map HD.words)):RowOf ds row:=by
  have hpk:=rowsP_iff.mp h;refine⟨by rw[hpk.1,Za],fun k d z e1 e2 => ?_⟩;obtain⟨u,h1,h2⟩:=hpk.2 k d.words (by rw[Ze,e1];rfl);rw[e2]at h1;cases h1;exact h2
section
variable{P:Program}{w:World}{K:Fg}{mg:Str->Option Value}{base:Heap}{a:Ad}
theorem p0 (B:Bt mg) (C:Ct K mg a) (l7:FnAt P w K mg base "are_menus" 4 ["house", "k", "thing"] zgb) (j8:FnAt P w K mg base "rows_of" 3 ["house"] (zai K)) (q9:FnAt P w K mg base "without" 1 ["things", "k"] (jz K)) (zbu:FnAt P w K mg base "pick" 3 ["house", "k", "menu", "word"] (zhi K)) (D:ze K mg "menus_table" tf ["house", "k", "menus"]):FnAtX P w K mg base "menus_table" 5 ["house", "k", "menus"] (zah K):=by
  refine FnAtX.of D d8 (fun vs H Q E h => ?_) (fun fa cdv A outer s H vs Q E hr h => ?_)
  . obtain⟨p,o,h,m,hs,outs,ds,k,d,kvs,rfl,_⟩:=h
    rfl
  . obtain⟨p,o,h,m,hs,outs,ds,k,d,kvs,rfl,hH,G,hd,MM,q⟩:=h
    refine⟨_,(@zj _ _ _ _ _ (@yu _ _ _ _ _ _ _ _ (@x6 _ _ _ _ (wm (zh l7 (hr.mono (by decide)) rfl (za (pv 0) (za (pv 1) (za (pv 2) (@zb _))))))) (@zi _ _ _ (ky rfl C.q_NoMenu.toErr rfl C.m_NoMenu (qo rfl) (za (@u0 _ _ _ _) (@zb _)))) (@yg _)) (@zi _ _ _ (PS.nox (@zm _ _ _ _ (xk (zd6 rfl (hu11 hr)) rfl B.dict cu (za (yh ["row"] ["house", "k", "menus"] rfl (@yb _ _ _ _ (zh j8 (hr.mono (by decide)) rfl (za (pv 0) (@zb _)))) (fun _=>(zn (i:=0) (show(["row", "house", "k", "menus"]:List Str).Nodup by decide +kernel) rfl (Or.inl rfl))) (fun _=>(@z8 _)) (fun _=>(@y6 _ _ _ _ _ (za (pv 0) (za (zh zbu (hr.mono (by decide)) rfl (za (pv 1) (za (pv 2) (za (@tu _ _ _ _ _ _ (hu10 hr) (pv 3) (zh q9 (hr.mono (by decide)) rfl (za (pv 0) (za (pv 2) (@zb _)))) (fun _ _=>rfl)) (za (@z0 _ _ _ _ _ _ _ ym (pv 0) (pv 2) (fun _ _=>rfl)) (@zb _)))))) (@zb _))))) rfl (by decide +kernel) rfl rfl) (@zb _))))))),?_⟩;rw[show start ["house", "k", "menus"] [V.ref p,V.int k,V.ref m]=[some (V.ref p),some (V.int k),some (V.ref m)] from rfl];simp only[zg,zf,↓reduceIte];have hk:k<ds.length:=(Zc.mp hd).1;have h4:=G.hands.2;have h8:∀d∈ds,d.words.length<=8:=fun d hd=>(G.words1 d hd).2
    have few:=ua (wss:=ds.map HD.words) (by rw[Za];exact h4) (fun ws hws=>by
      obtain⟨d,hd,rfl⟩:=Zp.mp hws
      exact h8 d hd) _ (Zm _)
    rw[Zt]at few
    have nd:(zx (ds.map HD.words)).Nodup:=qy fun vs hvs=>by
      obtain⟨d,hd,rfl⟩:=Zp.mp hvs;exact G.wordsD d hd
    refine⟨p,o,h,m,hs,outs,ds,k,kvs,rfl,hH,G,hk,MM,fun H1 S1=>⟨true,rfl,iteF ?_⟩⟩;refine⟨p,o,h,hs,outs,ds,rfl,(hH.mono S1).k,h4,h8,fun H2 rl as S2 _ R2=>⟨rl,rfl,⟨_,.of R2.lst⟩,fun dd => ?_⟩⟩;have S12:=S1.trans S2;generalize hrs:zx (ds.map HD.words)=rs at *;refine yf (xs:=as.map V.ref) (PvMt H H2 kvs outs d k rs) ⟨Same.refl _,[],fun _=>⟨#[]⟩,rfl,⟨rfl,fun i T kv e=>by simp at e⟩,fun r hr=>by cases hr⟩ ?_ ?_ ?_
    . rintro i ys H3 hi ⟨S3,Ts,f,rfl,hP,hB⟩
      refine⟨?_,.of (S3 _ _ R2.lst)⟩;rw[Za,hP.len,xq,Za,Zj];exact Zd (ZB _ _) (Zd few (by decide))
    . rintro i x ys H3 hx ⟨S3,Ts,f,rfl,hP,hB⟩
      obtain⟨c,hcx,rfl⟩:=yl hx;have hi:i<rs.length:=by have:=(Zc.mp hcx).1;have:=R2.tups.len;omega
      have er:rs[i]? = some rs[i]:=Zb hi;have hrow:=S3 _ _ (R2.tups.at' i c _ hcx er);have hm:rs[i]∈rs:=Zl hi
      have hri:rs[i]∉rs.take i:=fun z=>by
        obtain⟨j,hj⟩:=Ys z;have lj:=(Zc.mp hj).1;rw[Zj]at lj;rw[Yb (by omega)]at hj;have e1:=(Zc.mp hj).2;exact ZZ.mp nd j i (by omega) hi (by omega) e1
      generalize rs[i]=r at er hrow hm hri;rw[<-hrs]at hm;have RO:=zjt hm;obtain⟨z,hz⟩:∃z,r[k]? = some z:=⟨r[k]'(by rw[RO.1];exact hk),by simp⟩;have hzm:=RO.2 k d z hd hz;have ez:r.getD k ⟨#[]⟩=z:=by rw[Zk,hz];rfl
      have hot:=bf hm k;have S13:=S12.trans S3;simp only[zg,zf,↓reduceIte];refine⟨c,r.map V.str,k,rfl,.of hrow,by rw[Za,RO.1];exact hk,by rw[Za,RO.1];omega,fun H4 p4 S4 h4' => ?_⟩;rw[<-ve]at h4';have S14:=S13.trans S4;obtain⟨me,mk,v1,v2,v3,v4,v5⟩:=MM.menu _ hot;have gt:=DGet.t (k:=ya (r.eraseIdx k)) (S14 _ _ MM.at') (b:=p4) (by rw[xw];exact h4');rw[v1]at gt;refine⟨_,gt,_,.of (S4 _ _ hrow),_,z7 (v:=V.str z) (by rw[Ze,hz];rfl),p,o,h,me,hs,outs,ds,k,d,z,mk,rfl,hH.mono S14,G,hd,hzm,S14 _ _ v2,v3,v4,fun H5 bi o' S5 hBest=>⟨by decide,fun T hT => ?_⟩⟩;have S6:Same H5 (upd H5 T (.tup [V.ref c,V.str o'])):=Same.upd (Same.refl _) hT;have S36:=S4.trans (S5.trans S6);refine⟨S3.trans S36,Ts++[T],fun q=>if q=r then o' else f q,by simp,?_,fun r' hr' => ?_⟩
      . rw[Zq,er]
        show rg _ _ (xq _ (rs.take i++[r]))
        have e1:=zdy (f:=f) (z:=o') hri;rw[xq,Zn];rw[xq]at e1;rw[e1];refine zb5 (gf S36 hP) (b:=c) ?_ (by rw[xw];exact S36 _ _ hrow)
        show upd H5 T _ T=some (.tup [.ref c,V.str (if r=r then o' else f r)])
        rw[if_pos rfl];exact zc
      . rw[Zq,er]at hr'
        show za1 H kvs outs d k r' (if r'=r then o' else f r')
        by_cases e:r'=r
        . rw[if_pos e,e]
          intro me' mk' u1 u2;rw[v1]at u1;cases u1;rw[v2]at u2;cases u2;rw[ez];exact⟨bi,hBest⟩
        . rw[if_neg e]
          rcases ZH.mp hr' with y | y
          . exact hB r' y
          . exact absurd (ZC.mp y) e
    . rintro ys H3 ⟨S3,Ts,f,rfl,hP,hB⟩ l hl
      rw[Za,R2.tups.len,Zt]at hP hB;have S4:Same H3 (upd H3 l (.lst (Ts.map V.ref))):=Same.upd (Same.refl _) hl;refine⟨Ts,zc,_,gf S4 hP,fun t ht => ?_⟩;rw[zg5 (zfx nd)];exact q _ t f (S12.trans (S3.trans (S4.trans (Same.upd (Same.refl _) ht)))) ((S12.trans (S3.trans S4)).free ht) zc hB
end
theorem MenuOk.put{outs:List Str}{mk:List (Key×V)}(M:MenuOk outs mk){o:Str}{p:Int}(ho:o∈outs)(h:mk.length<64):MenuOk outs (putK mk (Sum.inr o) (V.int p)):=by
  refine⟨fun kv hkv => ?_,?_,Zd (u3 _ _ _) h⟩
  . unfold putK at hkv
    split at hkv
    . obtain⟨x,hx,e⟩:=Zp.mp hkv
      split at e
      . rename_i h2
        exact⟨o,p,ho,by rw[<-e,h2]⟩
      . rw[<-e];exact M.all x hx
    . rcases ZH.mp hkv with h1 | h1
      . exact M.all kv h1
      . exact⟨o,p,ho,ZC.mp h1⟩
  . cases e:valV mk (Sum.inr o) with
    | none=>exact zjj _ M.nd e
    | some v =>
      unfold putK;rw[qf,e];simp only[Option.isSome_some,↓reduceIte,Xc]
      have:((fun x:Key×V=>x.1)∘fun kv:Key×V=>if kv.1=Sum.inr o then(kv.1,V.int p) else kv)=fun x=>x.1:=by
        funext x
        simp only[Function.comp]
        split <;> rfl
      rw[this];exact M.nd
theorem zh0{κ:Type}[DecidableEq κ](kvs:List (κ×V))(k:κ)(v:V):0<(putK kvs k v).length:=by
  unfold putK
  split
  . rename_i h
    cases kvs with
    | nil=>simp at h
    | cons x r=>simp
  . simp
def zav(c x:Int):Int:=if c % 4=0 then x-c/4 % 3*(if decide (0<x)=true then 1 else 0) else if c % 4=1 then c/4 % 10^Int.toNat 18-5*10^Int.toNat 17 else if c % 4=2 then c/4 % 10^Int.toNat 57-5*10^Int.toNat 56 else c/4 % 19-9
def zbp:Sp:=fun vs H Q _=>∃c x:Int,vs=[.int c,.int x]/\Q (.int (zav c x)) H
def w4(ns:List Int)(outs:List Str)(ws:List Int)(j:Nat):Nat->List (Key×V)
  | 0=>[]
  | i+1=>if nt ns (300+j*outs.length+i) % 7<4\/i=0 then putK (w4 ns outs ws j i) (Sum.inr (outs.getD ((i+j) % outs.length) ⟨#[]⟩)) (V.int (zav (nt ns (300+j*outs.length+i)/7) (ws.getD ((i+j) % outs.length) 0))) else w4 ns outs ws j i
theorem gr{ns:List Int}{outs:List Str}{ws:List Int}{j:Nat}(h1:1<=outs.length)(h8:outs.length<=8):∀i,i<=8->MenuOk outs (w4 ns outs ws j i)/\(w4 ns outs ws j i).length<=i/\(0<i->0<(w4 ns outs ws j i).length)
  | 0,_=>⟨⟨fun kv h=>(nomatch h),Yq,ZE _⟩,Zm _,fun h=>absurd h (ZJ _)⟩
  | i+1,hi=>by
    obtain⟨M,hl,hp⟩:=gr (ns:=ns) (ws:=ws) (j:=j) h1 h8 i (by omega);have hm:(i+j) % outs.length<outs.length:=Nat.mod_lt _ h1;rw[w4]
    split
    . refine⟨M.put ?_ (by omega),Zd (u3 _ _ _) (by omega),fun _=>zh0 _ _ _⟩
      rw[Zk,Zb hm];exact Zl hm
    . rename_i h
      exact⟨M,by omega,fun _=>hp (by omega)⟩
def ordA(ns:List Int)(rs:List (List Str)):List (List Str):=if (zt ns 4/5 % (rs.length:Int)).toNat % 2=0 then rs.drop (zt ns 4/5 % (rs.length:Int)).toNat++rs.take (zt ns 4/5 % (rs.length:Int)).toNat else(rs.drop (zt ns 4/5 % (rs.length:Int)).toNat++rs.take (zt ns 4/5 % (rs.length:Int)).toNat).reverse
theorem bu(ns:List Int)(rs:List (List Str)):(ordA ns rs).Perm rs:=by
  have h:(rs.drop (zt ns 4/5 % (rs.length:Int)).toNat++rs.take (zt ns 4/5 % (rs.length:Int)).toNat).Perm rs:=by
    refine List.perm_append_comm.trans ?_;rw[List.take_append_drop]
  unfold ordA
  split
  . exact h
  . exact(List.reverse_perm _).trans h
theorem df:∀{l:List Nat},(∀x∈l,1<=x)->0<l.prod
  | [],_=>Nat.one_pos
  | x::l,h=>by
    rw[List.prod_cons];exact Nat.mul_pos (h x ZA) (df fun y hy=>h y (Zv _ hy))
def yq(R:List (List Str))(ms:List Addr):List (List Key×V):=List.zipWith (fun r c=>(ya r,V.ref c)) R ms
theorem l6:∀{R:List (List Str)} {ms:List Addr},ms.length=R.length->(yq R ms).map (·.1)=R.map ya
  | [],[],_=>rfl
  | [],_::_,h=>by cases h
  | _::_,[],h=>by cases h
  | r::R,c::ms,h=>by
    show ya r::(yq R ms).map (·.1)=ya r::R.map ya
    rw[l6 (by simpa using h)]
theorem zef{R:List (List Str)}{ms:List Addr}{j:Nat}{r:List Str}{c:Addr}(hl:ms.length=R.length)(hn:R.Nodup)(h1:R[j]? = some r)(h2:ms[j]? = some c):valV (yq R ms) (ya r)=some (V.ref c):=by
  refine zdo (by rw[l6 hl];exact YG.mpr (List.Pairwise.imp (fun {a b} hab e=>hab (ul e)) hn)) ?_;refine Zi (i:=j) ?_;rw[yq,List.getElem?_zipWith,h1,h2]
theorem zep{R:List (List Str)}{ms:List Addr}{r:List Str}{c:Addr}(hl:ms.length=R.length)(h:r∉R):putK (yq R ms) (ya r) (V.ref c)=yq (R++[r]) (ms++[c]):=by
  have no:valV (yq R ms) (ya r)=none:=by
    cases e:valV (yq R ms) (ya r) with
    | none=>rfl
    | some v =>
      exfalso
      have:=zdi e;rw[l6 hl]at this;obtain⟨q,hq,eq⟩:=Zp.mp this;exact h (ul eq▸hq)
  rw[ji _ no,yq,yq,List.zipWith_append hl.symm];rfl
structure zao(H H':Hp)(m:Addr)(ms:List Addr)(R:List (List Str))(f:Nat->List (Key×V)):Prop where
  same:Same H H'
  nm:H m=none
  at':H' m=some (.dT (yq R ms))
  len:ms.length=R.length
  new:∀c∈ms,H c=none
  ne:m∉ms
  menu:∀(j:Nat) (c:Addr),ms[j]? = some c->H' c=some (.dK (f j))
def wsA(d:HD)(j:Nat):List Int:=d.worths.getD (j % d.words.length) []
def zc9(K:Fg):Sp:=fun vs H Q _=>∃(a o b:Addr) (ns:List Int) (outs:List Str) (xs:List HX) (ds:List HD) (k:Nat) (d:HD),vs=[.ref a,.ref o,.ref b,.int k]/\SqL K H a (ns.map V.int)/\H o=some (.lst (outs.map V.str))/\HandsL H b xs ds/\GoodHouse outs ds/\ds[k]? = some d /\
  ∀H' m ms,zao H H' m ms (ordA ns (zx ((ds.eraseIdx k).map HD.words))) (fun j=>w4 ns outs (wsA d j) j outs.length)->Q (.ref m) H'
theorem TupsAt.reverse{H:Hp}{as:List Addr}{rs:List (List Str)}(h:TupsAt H as rs):TupsAt H as.reverse rs.reverse:=by
  refine⟨by simp[h.len],fun i a r e1 e2 => ?_⟩;have hi:i<as.length:=by have:=(Zc.mp e1).1;rw[List.length_reverse]at this;exact this
  rw[List.getElem?_reverse hi]at e1;rw[List.getElem?_reverse (by rw[<-h.len];exact hi),<-h.len]at e2;exact h.at' _ a r e1 e2
theorem TupsAt.drop{H:Hp}{as:List Addr}{rs:List (List Str)}(n:Nat)(h:TupsAt H as rs):TupsAt H (as.drop n) (rs.drop n) :=
  ⟨by simp[h.len],fun i a r e1 e2=>by
    rw[YB]at e1 e2
    exact h.at' _ a r e1 e2⟩
theorem TupsAt.take{H:Hp}{as:List Addr}{rs:List (List Str)}(n:Nat)(h:TupsAt H as rs):TupsAt H (as.take n) (rs.take n) :=
  ⟨by simp[h.len],fun i a r e1 e2=>by
    have hi:=(Zc.mp e1).1;rw[Zj]at hi;rw[Yb (by omega)]at e1 e2
    exact h.at' _ a r e1 e2⟩
def PvMj(a o b m rl lp:Addr)(k sp:Nat)(as:List Addr)(R:List (List Str))(f:Nat->List (Key×V))(H:Hp)(j:Nat)(σ:L2.St)(H':Hp):Prop:=∃(ms:List Addr) (v8 v9 v10 v11 v12 v13:Option V),zao H H' m ms (R.take j) f/\H' lp=some (.lst (as.map V.ref))/\TupsAt H' as R/\σ=[some (.ref a),some (.ref o),some (.ref b),some (.int k),some (.ref m),some (.int j),some (.ref rl),some (.int sp),v8,v9,v10,v11,v12,v13]
def PvMi(a o b m rl c mn wr:Addr)(k sp j:Nat)(f:Nat->List (Key×V))(H:Hp)(i:Nat)(σ:L2.St)(H':Hp):Prop:=∃(v11 v12 v13:Option V),Same H H'/\H' mn=some (.dK (f i))/\σ=[some (.ref a),some (.ref o),some (.ref b),some (.int k),some (.ref m),some (.int j),some (.ref rl),some (.int sp),some (.ref c),some (.ref mn),some (.ref wr),v11,v12,v13]
section
variable{P:Program}{w:World}{K:Fg}{mg:Str->Option Value}{base:Heap}{a:Ad}
theorem kc (B:Bt mg) (D:ze K mg "_law_price" qv ["cell", "worth"]):FnAt P w K mg base "_law_price" 1 ["cell", "worth"] zbp:=by
  refine FnAt.of D za3 (fun vs H Q E h => ?_) (fun f cdv A outer s H vs Q E hr h => ?_)
  . obtain⟨c,x,rfl,_⟩:=h
    rfl
  . obtain⟨c,x,rfl,q⟩:=h
    refine⟨_,(@zj _ _ _ _ _ (@yu _ _ _ _ _ _ _ _ (@yp _ _ _ _ _ _ _ _ sv (@zk _ _ _ _ _ _ _ _ ye (pv 0) (@zd _ _ _ _)) (@zd _ _ _ _) (yk _)) (@zi _ _ _ (@zm _ _ _ _ (@zk _ _ _ _ _ _ _ _ xr (pv 1) (@zk _ _ _ _ _ _ _ _ wu (@zk _ _ _ _ _ _ _ _ ye (@zk _ _ _ _ _ _ _ _ yx (pv 0) (@zd _ _ _ _)) (@zd _ _ _ _)) (xk zgx rfl B.int zhg (za (@tw _ _ _ _ _ _ _ _ zes (pv 1) (@zd _ _ _ _) (yk _)) (@zb _))))))) (@yg _)) (@zj _ _ _ _ _ (@yu _ _ _ _ _ _ _ _ (@yp _ _ _ _ _ _ _ _ sv (@zk _ _ _ _ _ _ _ _ ye (pv 0) (@zd _ _ _ _)) (@zd _ _ _ _) (yk _)) (@zi _ _ _ (@zm _ _ _ _ (@zk _ _ _ _ _ _ _ _ xr (@zk _ _ _ _ _ _ _ _ ye (@zk _ _ _ _ _ _ _ _ yx (pv 0) (@zd _ _ _ _)) (@zk _ _ _ _ _ _ _ _ rf (@zd _ _ _ _) (@zd _ _ _ _))) (@zk _ _ _ _ _ _ _ _ wu (@zd _ _ _ _) (@zk _ _ _ _ _ _ _ _ rf (@zd _ _ _ _) (@zd _ _ _ _)))))) (@yg _)) (@zj _ _ _ _ _ (@yu _ _ _ _ _ _ _ _ (@yp _ _ _ _ _ _ _ _ sv (@zk _ _ _ _ _ _ _ _ ye (pv 0) (@zd _ _ _ _)) (@zd _ _ _ _) (yk _)) (@zi _ _ _ (@zm _ _ _ _ (@zk _ _ _ _ _ _ _ _ xr (@zk _ _ _ _ _ _ _ _ ye (@zk _ _ _ _ _ _ _ _ yx (pv 0) (@zd _ _ _ _)) (@zk _ _ _ _ _ _ _ _ rf (@zd _ _ _ _) (@zd _ _ _ _))) (@zk _ _ _ _ _ _ _ _ wu (@zd _ _ _ _) (@zk _ _ _ _ _ _ _ _ rf (@zd _ _ _ _) (@zd _ _ _ _)))))) (@yg _)) (@zi _ _ _ (@zm _ _ _ _ (@zk _ _ _ _ _ _ _ _ xr (@zk _ _ _ _ _ _ _ _ ye (@zk _ _ _ _ _ _ _ _ yx (pv 0) (@zd _ _ _ _)) (@zd _ _ _ _)) (@zd _ _ _ _))))))),?_⟩;rw[show start ["cell", "worth"] [V.int c,V.int x]=[some (V.int c),some (V.int x)] from rfl];simp only[zg,zf,↓reduceIte];unfold zav at q;refine⟨by decide,rfl,ite2 (fun h => ?_) (fun h => ?_)⟩
    . rw[if_pos (of_decide_eq_true h)]at q
      refine⟨⟨by decide,by decide⟩,by decide,.inr ⟨?_,q⟩⟩;have h3:=yt (c/4) (show(0:Int)<3 by decide)
      by_cases hx:decide (0<x)=true
      . rw[if_pos hx]
        exact .inr ⟨by omega,by omega⟩
      . rw[if_neg hx]
        exact .inr ⟨by omega,by omega⟩
    . rw[if_neg (fun z=>h (decide_eq_true z))]at q
      refine⟨by decide,rfl,ite2 (fun h => ?_) (fun h => ?_)⟩
      . rw[if_pos (of_decide_eq_true h)]at q
        exact⟨⟨by decide,by decide⟩,⟨by decide,by decide,by decide⟩,by decide,⟨by decide,by decide,by decide⟩,.inl ⟨by decide,by decide⟩,q⟩
      . rw[if_neg (fun z=>h (decide_eq_true z))]at q
        refine⟨by decide,rfl,ite2 (fun h => ?_) (fun h => ?_)⟩
        . rw[if_pos (of_decide_eq_true h)]at q
          exact⟨⟨by decide,by decide⟩,⟨by decide,by decide,by decide⟩,by decide,⟨by decide,by decide,by decide⟩,.inl ⟨by decide,by decide⟩,q⟩
        . rw[if_neg (fun z=>h (decide_eq_true z))]at q
          exact⟨⟨by decide,by decide⟩,by decide,q⟩
theorem kd (B:Bt mg) (yr:FnAt P w K mg base "_law_cell_at" 1 ["script", "k"] (ny K)) (um:FnAt P w K mg base "_law_drawn" 2 ["script", "k"] (cx K)) (sx:FnAt P w K mg base "_law_rows" 1 ["hands"] cp) (kc:FnAt P w K mg base "_law_price" 1 ["cell", "worth"] zbp) (D:ze K mg "_law_menus" qk ["script", "outcomes", "hands", "k"]):FnAt P w K mg base "_law_menus" 3 ["script", "outcomes", "hands", "k"] (zc9 K):=by
  refine FnAt.of D sc_law_menus (fun vs H Q E h => ?_) (fun f cdv A outer s H vs Q E hr h => ?_)
  . obtain⟨a,o,b,ns,outs,xs,ds,k,d,rfl,_⟩:=h
    rfl
  . obtain⟨a,o,b,ns,outs,xs,ds,k,d,rfl,hS,ho,hH,G,hd,q⟩:=h
    refine⟨_,(@zj _ _ _ _ _ (zy (i:=4) sc_law_menus.nd rfl (Or.inl rfl) (@zab _ _)) (@zj _ _ _ _ _ (zy (i:=5) sc_law_menus.nd rfl (Or.inl rfl) (@zd _ _ _ _)) (@zj _ _ _ _ _ (zy (i:=6) sc_law_menus.nd rfl (Or.inl rfl) (zh sx (hr.mono (by decide)) rfl (za (@zk _ _ _ _ _ _ _ _ j1 (@xt _ _ _ _ _ _ _ _ _ _ kr (pv 2) (@we _) (@xy _ _ _ (pv 3))) (@xt _ _ _ _ _ _ _ _ _ _ kr (pv 2) (@xy _ _ _ (@zk _ _ _ _ _ _ _ _ yn (pv 3) (@zd _ _ _ _))) (@we _))) (@zb _)))) (@zj _ _ _ _ _ (zy (i:=7) sc_law_menus.nd rfl (Or.inl rfl) (@zk _ _ _ _ _ _ _ _ ye (@zk _ _ _ _ _ _ _ _ yx (zh yr (hr.mono (by decide)) rfl (za (pv 0) (za (@zd _ _ _ _) (@zb _)))) (@zd _ _ _ _)) (zr zw rfl B.len yd (za (pv 6) (@zb _))))) (@zj _ _ _ _ _ (xc PassesOwn.never rfl (@yb _ _ _ _ (@pe_way _ _ _ _ _ _ _ (@zk _ _ _ _ _ _ _ _ j1 (@xt _ _ _ _ _ _ _ _ _ _ kr (pv 6) (@xy _ _ _ (pv 7)) (@we _)) (@xt _ _ _ _ _ _ _ _ _ _ kr (pv 6) (@we _) (@xy _ _ _ (pv 7)))) (@xy _ _ _ (@zk _ _ _ _ _ _ _ _ xr (@zd _ _ _ _) (@zk _ _ _ _ _ _ _ _ wu (@zd _ _ _ _) (@zk _ _ _ _ _ _ _ _ ye (pv 7) (@zd _ _ _ _))))))) (zn (i:=8) sc_law_menus.nd rfl (Or.inl rfl)) (@zj _ _ _ _ _ (zy (i:=9) sc_law_menus.nd rfl (Or.inl rfl) (@ziv _ _)) (@zj _ _ _ _ _ (zy (i:=10) sc_law_menus.nd rfl (Or.inl rfl) (@z0 _ _ _ _ _ _ _ yc (@z0 _ _ _ _ _ _ _ ym (@z0 _ _ _ _ _ _ _ yc (pv 2) (pv 3) (fun _ _=>rfl)) (@zd _ _ _ _) (fun _ _=>rfl)) (@zk _ _ _ _ _ _ _ _ ye (pv 5) (zr zw rfl B.len yd (za (@z0 _ _ _ _ _ _ _ ym (@z0 _ _ _ _ _ _ _ yc (pv 2) (pv 3) (fun _ _=>rfl)) (@zd _ _ _ _) (fun _ _=>rfl)) (@zb _)))) (fun _ _=>rfl))) (@zj _ _ _ _ _ (xc PassesOwn.never rfl (yv rfl B.range (za (zr zw rfl B.len yd (za (pv 1) (@zb _))) (@zb _))) (zn (i:=11) sc_law_menus.nd rfl (Or.inl rfl)) (@zj _ _ _ _ _ (zy (i:=12) sc_law_menus.nd rfl (Or.inl rfl) (@zk _ _ _ _ _ _ _ _ ye (@zk _ _ _ _ _ _ _ _ yn (pv 11) (pv 5)) (zr zw rfl B.len yd (za (pv 1) (@zb _))))) (@zj _ _ _ _ _ (zy (i:=13) sc_law_menus.nd rfl (Or.inl rfl) (zh um (hr.mono (by decide)) rfl (za (pv 0) (za (@zk _ _ _ _ _ _ _ _ yn (@zk _ _ _ _ _ _ _ _ yn (@zd _ _ _ _) (@zk _ _ _ _ _ _ _ _ wu (pv 5) (zr zw rfl B.len yd (za (pv 1) (@zb _))))) (pv 11)) (@zb _))))) (@zi _ _ _ (@yu _ _ _ _ _ _ _ _ (PW.pt (@oq _ _ _ _ _ _ _ (@yp _ _ _ _ _ _ _ _ lq (@zk _ _ _ _ _ _ _ _ ye (pv 13) (@zd _ _ _ _)) (@zd _ _ _ _) (yk _)) (@se _ _ _ _ (@yp _ _ _ _ _ _ _ _ sv (pv 11) (@zd _ _ _ _) (yk _))))) (@zi _ _ _ (db (zh kc (hr.mono (by decide)) rfl (za (@zk _ _ _ _ _ _ _ _ yx (pv 13) (@zd _ _ _ _)) (za (@z0 _ _ _ _ _ _ _ yc (pv 10) (pv 12) (fun _ _=>rfl)) (@zb _)))) (zbg (pv 9) (@z0 _ _ _ _ _ _ _ yc (pv 1) (pv 12) (fun _ _=>rfl)) (fg (hu10 hr))))) (@yg _)))))) (@zj _ _ _ _ _ (db (pv 9) (zbg (pv 4) (pv 8) (fg (hu10 hr)))) (@zi _ _ _ (zy (i:=5) sc_law_menus.nd rfl (Or.inl rfl) (@zk _ _ _ _ _ _ _ _ yn (pv 5) (@zd _ _ _ _))))))))) (@zi _ _ _ (@zm _ _ _ _ (pv 4)))))))),?_⟩;rw[show start ["script", "outcomes", "hands", "k", "menus", "j", "rows", "step", "others", "menu", "worths", "i", "place", "cell"] [V.ref a,V.ref o,V.ref b,V.int k]=[some (V.ref a),some (V.ref o),some (V.ref b),some (V.int k),none,none,none,none,none,none,none,none,none,none] from rfl];refine hide4 fun T hT => ?_
    simp only[zg,zf,↓reduceIte];intro m hm;have hk:k<ds.length:=(Zc.mp hd).1;have hkx:k<xs.length:=by rw[hH.len];exact hk
    have h4:=G.hands.2;have h8:∀d∈ds,d.words.length<=8:=fun d hd=>(G.words1 d hd).2
    have S1:Same H (upd H m (.dT [])):=Same.upd (Same.refl _) hm;have m1:upd H m (.dT []) m=some (.dT []):=zc;generalize upd H m (.dT [])=H1 at *;refine⟨_,.of (S1 _ _ hH.at'),fun p1 hp1 => ?_⟩;rw[o7 (by rw[Za];omega)];have S2:Same H1 (upd H1 p1 (.lst ((xs.map fun x=>V.ref x.t).take k))):=Same.upd (Same.refl _) hp1;have t2:upd H1 p1 (.lst ((xs.map fun x=>V.ref x.t).take k)) p1=some (.lst ((xs.map fun x=>V.ref x.t).take k)):=zc;generalize upd H1 p1 (.lst ((xs.map fun x=>V.ref x.t).take k))=H2 at *;refine⟨_,.of ((S1.trans S2) _ _ hH.at'),fun p2 hp2 => ?_⟩;rw[show(k:Int)+1=((k+1:Nat):Int) by omega,tq (by rw[Za];omega)];have S3:Same H2 (upd H2 p2 (.lst ((xs.map fun x=>V.ref x.t).drop (k+1)))):=Same.upd (Same.refl _) hp2;have t3:upd H2 p2 (.lst ((xs.map fun x=>V.ref x.t).drop (k+1))) p2=some (.lst ((xs.map fun x=>V.ref x.t).drop (k+1))):=zc;generalize upd H2 p2 (.lst ((xs.map fun x=>V.ref x.t).drop (k+1)))=H3 at *;refine⟨_,S3 _ _ t2,_,t3,?_,fun p3 hp3 => ?_⟩
    . rw[Zj,ZP,Za]
      exact Zd (show _<=8 by have:=hH.len;omega) (by decide)
    have eer:(xs.map fun x=>V.ref x.t).take k++(xs.map fun x=>V.ref x.t).drop (k+1)=(xs.eraseIdx k).map fun x=>V.ref x.t:=by
      rw[ve,ZR]
    rw[eer];have S4:Same H3 (upd H3 p3 (.lst ((xs.eraseIdx k).map fun x=>V.ref x.t))):=Same.upd (Same.refl _) hp3;have t4:upd H3 p3 (.lst ((xs.eraseIdx k).map fun x=>V.ref x.t)) p3=some (.lst ((xs.eraseIdx k).map fun x=>V.ref x.t)):=zc;generalize upd H3 p3 (.lst ((xs.eraseIdx k).map fun x=>V.ref x.t))=H4 at *;have S14:=S1.trans (S2.trans (S3.trans S4))
    have hE:HandsL H4 p3 (xs.eraseIdx k) (ds.eraseIdx k):=by
      refine⟨t4,by rw[ZL hkx,ZL hk,hH.len],fun i x d e1 e2 => ?_⟩;rw[ZS]at e1 e2
      split at e1
      . rename_i hi
        rw[if_pos hi]at e2;exact(hH.hand i x d e1 e2).mono S14
      . rename_i hi
        rw[if_neg hi]at e2;exact(hH.hand (i+1) x d e1 e2).mono S14
    have few:=ua (wss:=(ds.eraseIdx k).map HD.words) (by rw[Za,ZL hk];omega) (fun ws hws=>by
      obtain⟨d,hd,rfl⟩:=Zp.mp hws
      exact h8 d (ZO hd)) _ (Zm _)
    rw[Zt]at few
    have hpos:0<(zx ((ds.eraseIdx k).map HD.words)).length:=by
      rw[zgm];refine df fun z hz => ?_
      obtain⟨ws,hws,rfl⟩:=Zp.mp hz;obtain⟨d,hd,rfl⟩:=Zp.mp hws;exact(G.words1 d (ZO hd)).1
    have nd:(zx ((ds.eraseIdx k).map HD.words)).Nodup:=qy fun vs hvs=>by
      obtain⟨d,hd,rfl⟩:=Zp.mp hvs;exact G.wordsD d (ZO hd)
    refine⟨p3,xs.eraseIdx k,ds.eraseIdx k,rfl,hE,by rw[ZL hk];omega,fun d hd=>h8 d (ZO hd),fun H5 rl as S5 R5 => ?_⟩;have S15:=S14.trans S5;refine⟨a,ns,4,rfl,S15.seq hS,?_⟩;refine⟨_,rfl,⟨by decide,by decide⟩,rl,rfl,_,.inl (.of R5.lst),by rw[Za,R5.tups.len];omega,?_⟩;rw[Za,R5.tups.len];have hst:=yt (zt ns 4/5) (show(0:Int)<((zx ((ds.eraseIdx k).map HD.words)).length:Int) by omega);obtain⟨sp,esp⟩:∃sp:Nat,zt ns 4/5 % ((zx ((ds.eraseIdx k).map HD.words)).length:Int)=(sp:Int):=⟨_,(Yl hst.1).symm⟩;rw[esp]at hst ⊢;have ordE:ordA ns (zx ((ds.eraseIdx k).map HD.words))=if sp % 2=0 then(zx ((ds.eraseIdx k).map HD.words)).drop sp++(zx ((ds.eraseIdx k).map HD.words)).take sp else((zx ((ds.eraseIdx k).map HD.words)).drop sp++(zx ((ds.eraseIdx k).map HD.words)).take sp).reverse:=by rw[ordA,esp,Zw]
    have hperm:=bu ns (zx ((ds.eraseIdx k).map HD.words));generalize ordA ns (zx ((ds.eraseIdx k).map HD.words))=R at *;generalize zx ((ds.eraseIdx k).map HD.words)=rs at *;rw[hT];clear hT T;refine av fun T hT => ?_
    simp only[zg,zf,↓reduceIte];have las:as.length=rs.length:=R5.tups.len;refine⟨_,.of R5.lst,fun p6 hp6 => ?_⟩;rw[tq (by rw[Za];omega),<-List.map_drop];have S6:Same H5 (upd H5 p6 (.lst ((as.drop sp).map V.ref))):=Same.upd (Same.refl _) hp6;have t6:upd H5 p6 (.lst ((as.drop sp).map V.ref)) p6=some (.lst ((as.drop sp).map V.ref)):=zc;generalize upd H5 p6 (.lst ((as.drop sp).map V.ref))=H6 at *;refine⟨_,.of (S6 _ _ R5.lst),fun p7 hp7 => ?_⟩;rw[o7 (by rw[Za];omega),<-YX];have S7:Same H6 (upd H6 p7 (.lst ((as.take sp).map V.ref))):=Same.upd (Same.refl _) hp7;have t7:upd H6 p7 (.lst ((as.take sp).map V.ref)) p7=some (.lst ((as.take sp).map V.ref)):=zc;generalize upd H6 p7 (.lst ((as.take sp).map V.ref))=H7 at *;refine⟨_,S7 _ _ t6,_,t7,?_,fun p8 hp8 => ?_⟩
    . rw[Za,Za,Zj,ZP]
      exact Zd (show _<=4096 by omega) (by decide)
    rw[<-Zn];have S8:Same H7 (upd H7 p8 (.lst ((as.drop sp++as.take sp).map V.ref))):=Same.upd (Same.refl _) hp8;have t8:upd H7 p8 (.lst ((as.drop sp++as.take sp).map V.ref)) p8=some (.lst ((as.drop sp++as.take sp).map V.ref)):=zc;generalize upd H7 p8 (.lst ((as.drop sp++as.take sp).map V.ref))=H8 at *;refine⟨by decide,.inr ⟨by omega,by omega⟩,decide (sp % 2=0),?_,_,.of t8,fun lp hlp => ?_⟩
    . by_cases h:sp % 2=0
      . rw[if_pos (decide_eq_true h)];omega
      . rw[if_neg (fun z=>h (of_decide_eq_true z))];omega
    obtain⟨ao,eao,hao⟩:∃ao:List Addr,(if decide (sp % 2=0)=true then(as.drop sp++as.take sp).map V.ref else((as.drop sp++as.take sp).map V.ref).reverse)=ao.map V.ref/\TupsAt H5 ao R:=by
      have tt:=(R5.tups.drop sp).append (R5.tups.take sp);rw[ordE]
      by_cases h:sp % 2=0
      . rw[if_pos (decide_eq_true h),if_pos h]
        exact⟨_,rfl,tt⟩
      . rw[if_neg (fun z=>h (of_decide_eq_true z)),if_neg h]
        exact⟨_,List.map_reverse.symm,tt.reverse⟩
    rw[eao];have S9:Same H8 (upd H8 lp (.lst (ao.map V.ref))):=Same.upd (Same.refl _) hlp;have t9:upd H8 lp (.lst (ao.map V.ref)) lp=some (.lst (ao.map V.ref)):=zc;generalize upd H8 lp (.lst (ao.map V.ref))=H9 at *;have S59:=S6.trans (S7.trans (S8.trans S9));have S19:=S15.trans S59;have m9:H9 m=some (.dT []):=((S2.trans (S3.trans S4)).trans (S5.trans S59)) _ _ m1;have lao:ao.length=R.length:=hao.len;have lR:R.length=rs.length:=hperm.length_eq;have ndR:R.Nodup:=hperm.nodup_iff.mpr nd;have x? : ∃x,xs[k]? = some x:=⟨xs[k],Zb hkx⟩;obtain⟨x,hx⟩:=x?;have hA:=hH.hand k x d hx hd;have hmd:=Zi hd;have w1:=G.words1 d hmd;have o1:=G.outs1;have lrw:=G.rows d hmd;refine⟨⟨_,.of t9⟩,?_⟩;refine w9 (xs:=ao.map V.ref) (PvMj a o b m rl lp k sp ao R (fun j=>w4 ns outs (wsA d j) j outs.length) H) ⟨[],_,_,_,_,_,_,⟨S19,hm,m9,rfl,(fun c h=>(nomatch h)),(fun h=>(nomatch h)),(fun j c h=>by simp at h)⟩,t9,hao.mono S59,rfl⟩ ?_ ?_ ?_
    . rintro i σ Hc hi ⟨ms,v8,v9,v10,v11,v12,v13,N,hl,ht,rfl⟩
      exact .of hl
    . rintro j y σ Hc hy ⟨ms,v8,v9,v10,v11,v12,v13,N,hl,ht,rfl⟩
      obtain⟨c,hcx,rfl⟩:=yl hy;have hj:j<R.length:=by have:=(Zc.mp hcx).1;omega
      have er:R[j]? = some R[j]:=Zb hj;have hrow:=ht.at' j c _ hcx er
      have hrj:R[j]∉R.take j:=fun z=>by
        obtain⟨i,hi⟩:=Ys z;have li:=(Zc.mp hi).1;rw[Zj]at li;rw[Yb (by omega)]at hi;exact ZZ.mp ndR i j (by omega) hj (by omega) (Zc.mp hi).2
      generalize R[j]=r at er hrow hrj;simp only[zg,zf,↓reduceIte];intro mn hmn;have Sa:Same Hc (upd Hc mn (.dK [])):=Same.upd (Same.refl _) hmn;have ta:upd Hc mn (.dK []) mn=some (.dK []):=zc;generalize upd Hc mn (.dK [])=Ha at *;have SHa:=N.same.trans Sa;have hB:=SHa _ _ hH.at';have hA2:=hA.mono SHa;have ax:atI (xs.map fun x=>V.ref x.t) (k:Int)=some (V.ref x.t):=z7 (by rw[Ze,hx];rfl);have jm:j % d.words.length<d.words.length:=Nat.mod_lt _ w1.1;have jg:j % d.words.length<x.gs.length:=by rw[hA.len,lrw];exact jm
      obtain⟨wr,hwr⟩:∃wr,x.gs[j % d.words.length]? = some wr:=⟨_,Zb jg⟩
      have hws:d.worths[j % d.words.length]? = some (wsA d j):=by
        rw[wsA,Zk,Zb (by rw[lrw];exact jm)];rfl
      have hwl:(wsA d j).length=outs.length:=G.cols d hmd _ (Zi hws);have hwA:=hA2.row _ _ _ hwr hws;refine⟨_,.of hB,_,ax,_,rfl,_,.of hA2.tup,_,z7 (j:=2) rfl,_,.of hB,_,ax,_,rfl,_,.of hA2.tup,_,z7 (j:=1) rfl,_,rfl,_,.inl (.of hA2.words),by rw[Za];omega,_,rfl,_,.of hA2.grid,V.ref wr,?_,_,.inl (.of (SHa _ _ ho)),?_⟩
      . rw[Za,<-Xb]
        exact z7 (by rw[Ze,hwr];rfl)
      rw[Za,Zw];refine⟨by omega,by omega,?_⟩;refine xx (PvMi a o b m rl c mn wr k sp j (w4 ns outs (wsA d j) j) Hc) ⟨_,_,_,Sa,ta,rfl⟩ ?_ ?_
      . rintro i σ Hi hi ⟨v11,v12,v13,Si,hmi,rfl⟩
        simp only[zg,zf,↓reduceIte];have SHi:=N.same.trans Si;have oi:=SHi _ _ ho;have hjp:(i+j) % outs.length<outs.length:=Nat.mod_lt _ o1.1;have ejp:((i:Int)+(j:Int)) % (outs.length:Int)=(((i+j) % outs.length:Nat):Int):=by rw[Xb,YA]
        have eo:outs[(i+j) % outs.length]? = some (outs.getD ((i+j) % outs.length) ⟨#[]⟩):=by
          rw[Zk,Zb hjp];rfl
        have ew:(wsA d j)[(i+j) % outs.length]? = some ((wsA d j).getD ((i+j) % outs.length) 0):=by
          rw[Zk,Zb (by rw[hwl];exact hjp)];rfl
        have hwi:Hi wr=some (.lst ((wsA d j).map V.int)):=SHi _ _ (hA.row _ _ _ hwr hws);have mok:=gr (ns:=ns) (outs:=outs) (ws:=wsA d j) (j:=j) o1.1 o1.2 i (by omega);refine⟨_,.inl (.of oi),by rw[Za];omega,_,.inl (.of oi),?_,?_⟩
        . rw[Za]
          exact .inr ⟨by omega,by omega⟩
        rw[Za,ejp];refine⟨a,ns,300+j*outs.length+i,by rw[YA,YA,Xf];rfl,SHi.seq hS,?_⟩;refine⟨_,rfl,by decide,?_⟩
        have put:∀v,w4 ns outs (wsA d j) j (i+1)=putK (w4 ns outs (wsA d j) j i) (Sum.inr (outs.getD ((i+j) % outs.length) ⟨#[]⟩)) (V.int v)->∃x_8,DPut Hi mn (V.str (outs.getD ((i+j) % outs.length) ⟨#[]⟩)) (V.int v) x_8/\PvMi a o b m rl c mn wr k sp j (w4 ns outs (wsA d j) j) Hc (i+1) [some (V.ref a),some (V.ref o),some (V.ref b),some (V.int k),some (V.ref m),some (V.int j),some (V.ref rl),some (V.int sp),some (V.ref c),some (V.ref mn),some (V.ref wr),some (V.int i),some (V.int ((i+j) % outs.length:Nat)),some (V.int (nt ns (300+j*outs.length+i)))] x_8:=fun v e=>by
          refine⟨_,DPut.k (k:=Sum.inr _) hmi (YC mok.2.1 (Zh (show i<9 by omega) (by decide))),_,_,_,fun b' u hb => ?_,?_,rfl⟩
          . rw[zp (fun z=>by rw[z,hmn]at hb;cases hb)]
            exact Si _ _ hb
          . rw[zc,e]
        refine ite2 (fun h => ?_) (fun h => ?_)
        . have h':=of_decide_eq_true h
          refine⟨_,rfl,⟨by decide,by decide⟩,_,.of hwi,_,z7 (by rw[Ze,ew];rfl),_,_,rfl,_,.of oi,_,z7 (by rw[Ze,eo];rfl),put _ (by rw[w4,if_pos (.inl h')])⟩
        . refine⟨rfl,ite2 (fun h2 => ?_) (fun h2 => ?_)⟩
          . have h':i=0:=by have:=of_decide_eq_true h2;omega
            refine⟨_,rfl,⟨by decide,by decide⟩,_,.of hwi,_,z7 (by rw[Ze,ew];rfl),_,_,rfl,_,.of oi,_,z7 (by rw[Ze,eo];rfl),put _ (by rw[w4,if_pos (.inr h')])⟩
          . have hi0:i≠0:=fun e=>h2 (by rw[e];rfl)
            refine⟨_,_,_,Si,?_,rfl⟩;rw[w4,if_neg (fun z=>z.elim (fun z=>h (decide_eq_true z)) hi0)];exact hmi
      . rintro σ Hi ⟨v11,v12,v13,Si,hmi,rfl⟩
        simp only[zg,zf,↓reduceIte];have SHi:=N.same.trans Si;have mne:m≠mn:=fun e=>by have:=N.at';rw[e,hmn]at this;cases this
        have cnm:∀e u,e≠m->Hc e=some u->upd Hi m (.dT (putK (yq (R.take j) ms) (ya r) (V.ref mn))) e=some u:=fun e u he h=>by rw[zp he];exact Si _ _ h
        have ltj:(R.take j).length=j:=by rw[Zj];omega
        refine⟨_,DPut.t (k:=ya r) (Si _ _ N.at') (by rw[xw];exact Si _ _ hrow) ?_,ms++[mn],_,_,_,_,_,_,⟨fun e u h => ?_,hm,?_,?_,?_,?_,?_⟩,cnm _ _ (fun e=>by rw[e,N.at']at hl;cases hl) hl,⟨ht.len,fun i e r' e1 e2=>cnm _ _ (fun e'=>by have:=ht.at' i e r' e1 e2;rw[e',N.at']at this;cases this) (ht.at' i e r' e1 e2)⟩,by rw[YA];rfl⟩
        . rw[yq,List.length_zipWith,N.len,Nat.min_self,ltj]
          exact Zh (show j<4096 by omega) (by decide)
        . exact cnm _ _ (fun z=>by rw[z,hm]at h;cases h) (N.same _ _ h)
        . rw[zc,zep N.len hrj,Zq,er]
          rfl
        . rw[Zo,N.len,Zq,er]
          simp
        . intro e he
          rcases ZH.mp he with z | z
          . exact N.new e z
          . rw[ZC.mp z]
            exact N.same.free hmn
        . intro z
          rcases ZH.mp z with z | z
          . exact N.ne z
          . exact mne (ZC.mp z)
        . intro i e he
          by_cases hi:i<ms.length
          . rw[Zg hi]at he
            exact cnm _ _ (fun z=>N.ne (z▸Zi he)) (N.menu i e he)
          . rw[Zf (ZD.mp hi)]at he
            have hi':=(Zc.mp he).1;simp at hi';have e0:i=ms.length:=by omega
            rw[e0,Nat.sub_self]at he;simp at he;rw[<-he,e0,zp (Ne.symm mne),N.len,ltj];exact hmi
    . rintro σ Hc ⟨ms,v8,v9,v10,v11,v12,v13,N,hl,ht,rfl⟩
      rw[hT];simp only[zg,zf,↓reduceIte];refine q Hc m ms ?_;rw[Za,lao,Zt]at N;exact N
end
def wq(pl:List Str->Nat)(rs:List (List Str)):List (List Key×V):=rs.map fun r=>(ya r,V.int (pl r))
theorem ze6{pl:List Str->Nat}{rs:List (List Str)}{r:List Str}(h:r∉rs):valV (wq pl rs) (ya r)=none:=by
  induction rs with
  | nil=>rfl
  | cons q rs ih =>
    rw[wq,ZM,tj (fun z=>h (by rw[ul z];exact ZA))];exact ih fun z=>h (Zv _ z)
theorem zcg{pl:List Str->Nat}{rs:List (List Str)}{r:List Str}(h:r∈rs):valV (wq pl rs) (ya r)=some (V.int (pl r)):=by
  induction rs with
  | nil=>cases h
  | cons q rs ih =>
    rw[wq,ZM]
    by_cases e:q=r
    . rw[r9 (by rw[e]),e]
    . rw[tj (fun z=>e (ul z))]
      exact ih ((ZK.mp h).resolve_left fun z=>e z.symm)
theorem zbz{pl:List Str->Nat}{rs:List (List Str)}{r:List Str}(h:r∉rs)(p:Nat):putK (wq pl rs) (ya r) (V.int p)=wq (fun q=>if q=r then p else pl q) (rs++[r]):=by
  rw[ji _ (ze6 h),wq,wq,Zn]
  congr 1
  . refine Yw fun q hq => ?_
    rw[if_neg fun(z:q=r)=>h (z▸hq)]
  . simp
def putQ(pl:List Str->Nat)(o:List Str)(k:Nat)(us:List Str):List Nat:=us.map fun u=>pl (insP o k u)
def zds:Sp:=fun vs H Q _=>∃(b t c:Addr) (xs:List HX) (outs:List Str) (ds:List HD) (pl:List Str->Nat) (rs:List (List Str)) (ot:List Str) (k:Nat) (d:HD),vs=[.ref b,.ref t,.int k,.ref c]/\HandsL H b xs ds/\GoodHouse outs ds/\H t=some (.dT (wq pl rs))/\ds[k]? = some d/\H c=some (.tup (ot.map V.str))/\k<=ot.length/\ot.length<=8/\(∀u∈d.words,insP ot k u∈rs/\pl (insP ot k u)<outs.length) /\
  ∀H' l ls,Same H H'->H' l=some (.lst (ls.map V.ref))->IntsAt H' ls (colP d (putQ pl ot k d.words))->Q (.ref l) H'
def PvGq(H:Hp)(pl:List Str->Nat)(o:List Str)(k:Nat)(us:List Str)(i:Nat)(ys:List V)(H':Hp):Prop:=Same H H'/\ys=(nI (putQ pl o k (us.take i))).map V.int
def PvWc(H:Hp)(ns:List Int)(ps:List Nat)(i:Nat)(ys:List V)(H':Hp):Prop:=H'=H/\ys=((ps.take i).map fun p=>ns.getD p 0).map V.int
def PvGl(b t c l g:Addr)(k:Nat)(d:HD)(ps:List Nat)(H:Hp)(i:Nat)(σ:L2.St)(H':Hp):Prop:=Same H H'/\∃(ls:List Addr) (v:Option V),H' g=some (.lst (ls.map V.ref))/\g∉ls/\IntsAt H' ls ((colP d ps).take i)/\σ=[some (.ref b),some (.ref t),some (.int k),some (.ref c),some (.ref l),some (.ref g),v]
section
variable{P:Program}{w:World}{K:Fg}{mg:Str->Option Value}{base:Heap}{a:Ad}
theorem jc (B:Bt mg) (D:ze K mg "_law_grid" oo ["hands", "places", "k", "others"]):FnAt P w K mg base "_law_grid" 1 ["hands", "places", "k", "others"] zds:=by
  refine FnAt.of D sc_law_grid (fun vs H Q E h => ?_) (fun f cdv A outer s H vs Q E hr h => ?_)
  . obtain⟨b,t,c,xs,outs,ds,pl,rs,ot,k,d,rfl,_⟩:=h
    rfl
  . obtain⟨b,t,c,xs,outs,ds,pl,rs,ot,k,d,rfl,hH,G,ht,hd,hc,hk,h8,hD,q⟩:=h
    refine⟨_,(@zj _ _ _ _ _ (vm (i:=4) ["word"] ["hands", "places", "k", "others", "got", "grid", "worths"] sc_law_grid.nd rfl rfl rfl (@yb _ _ _ _ (@z0 _ _ _ _ _ _ _ ym (@z0 _ _ _ _ _ _ _ yc (pv 0) (pv 2) (fun _ _=>rfl)) (@zd _ _ _ _) (fun _ _=>rfl))) (fun _=>(zn (i:=0) (show(["word", "hands", "places", "k", "others", "got", "grid", "worths"]:List Str).Nodup by decide +kernel) rfl (Or.inl rfl))) (fun _=>(@z8 _)) (fun _=>(@tu _ _ _ _ _ _ (hu10 hr) (pv 2) (@zk _ _ _ _ _ _ _ _ uj (@zk _ _ _ _ _ _ _ _ uj (@xt _ _ _ _ _ _ _ _ _ _ o6 (pv 4) (@we _) (@xy _ _ _ (pv 3))) (@y6 _ _ _ _ _ (za (pv 0) (@zb _)))) (@xt _ _ _ _ _ _ _ _ _ _ o6 (pv 4) (@xy _ _ _ (pv 3)) (@we _))) (fun _ _=>rfl))) rfl (by decide +kernel) rfl rfl rfl) (@zj _ _ _ _ _ (zy (i:=5) sc_law_grid.nd rfl (Or.inl rfl) (@xp _ _ _ _ (@zb _))) (@zj _ _ _ _ _ (xc PassesOwn.never rfl (@yb _ _ _ _ (@z0 _ _ _ _ _ _ _ ym (@z0 _ _ _ _ _ _ _ yc (pv 0) (pv 2) (fun _ _=>rfl)) (@zd _ _ _ _) (fun _ _=>rfl))) (zn (i:=6) sc_law_grid.nd rfl (Or.inr rfl)) (@zi _ _ _ (r6 (jb PySem.F.plainAttrs_list PySem.F.slot_list_append PySem.F.type_list_append my (pv 5) (za (yh ["place"] ["hands", "places", "k", "others", "got", "grid", "worths"] rfl (@yb _ _ _ _ (pv 4)) (fun _=>(zn (i:=0) (show(["place", "hands", "places", "k", "others", "got", "grid", "worths"]:List Str).Nodup by decide +kernel) rfl (Or.inl rfl))) (fun _=>(@z8 _)) (fun _=>(@z0 _ _ _ _ _ _ _ yc (pv 7) (pv 0) (fun _ _=>rfl))) rfl (by decide +kernel) rfl rfl) (@zb _)))))) (@zi _ _ _ (@zm _ _ _ _ (pv 5)))))),?_⟩;rw[show start ["hands", "places", "k", "others", "got", "grid", "worths"] [V.ref b,V.ref t,V.int k,V.ref c]=[some (V.ref b),some (V.ref t),some (V.int k),some (V.ref c),none,none,none] from rfl];refine av fun T hT => ?_
    simp only[zg,zf,↓reduceIte];have hkl:k<ds.length:=(Zc.mp hd).1;obtain⟨x,hx⟩:∃x,xs[k]? = some x:=⟨xs[k]'(by rw[hH.len];exact hkl),by simp⟩;have hA:=hH.hand k x d hx hd;have hmd:=Zi hd;have w8:=(G.words1 d hmd).2;have ro:=G.rows d hmd;refine⟨_,.of hH.at',_,z7 (v:=V.ref x.t) (by rw[Ze,hx];rfl),x.t,rfl,_,.of hA.tup,_,rfl,x.w,rfl,⟨_,.of hA.words⟩,fun dd => ?_⟩;refine yf (xs:=d.words.map V.str) (PvGq H pl ot k d.words) ⟨Same.refl _,rfl⟩ ?_ ?_ ?_
    . rintro i ys H2 hi ⟨S2,rfl⟩
      refine⟨?_,.of (S2 _ _ hA.words)⟩;rw[Za,nI,Za,putQ,Za,Zj];exact Zd (ZB _ _) (Zd w8 (by decide))
    . rintro i y ys H2 hy ⟨S2,rfl⟩
      obtain⟨u,hu,rfl⟩:=yl hy;obtain⟨z1,z2⟩:=hD u (Zi hu);simp only[zg,zf,↓reduceIte];refine⟨_,S2 _ _ hc,fun H1 p1 S1 h1=>⟨by decide,fun p2 hp2 => ?_⟩⟩;rw[o7 (by rw[Za];exact hk)]at h1;have T2:Same H1 (upd H1 p2 (.tup [V.str u])):=Same.upd (Same.refl _) hp2;refine⟨_,T2 _ _ h1,_,zc,?_,fun H3 p3 S3 h3 => ?_⟩
      . rw[Zj,Za]
        exact Zd (show _<=9 by simp;omega) (by decide)
      have S23:=S2.trans (S1.trans (T2.trans S3));refine⟨_,S23 _ _ hc,fun H4 p4 S4 h4 => ?_⟩;rw[tq (by rw[Za];exact hk)]at h4;refine⟨_,S4 _ _ h3,_,h4,?_,fun H5 p5 S5 h5 => ?_⟩
      . simp only[Zo,Zj,ZP,Za,ZN,ZX]
        exact Zd (show _<=17 by omega) (by decide)
      have S25:=S23.trans (S4.trans S5)
      have hrow:H5 p5=some (.tup ((insP ot k u).map V.str)):=by
        rw[h5,insP];simp
      have gt:DGet H5 t (.ref p5) (some (V.int (pl (insP ot k u)))):=by
        have:=DGet.t (k:=ya (insP ot k u)) (S25 _ _ ht) (b:=p5) (by rw[xw];exact hrow)
        rwa [zcg z1]at this
      refine⟨_,gt,S25,?_⟩;rw[Zq,hu];simp[putQ,nI]
    . rintro ys H2 ⟨S2,rfl⟩ l hl
      rw[Za,Zt];have S3:Same H2 (upd H2 l (.lst ((nI (putQ pl ot k d.words)).map V.int))):=Same.upd (Same.refl _) hl;have h3:upd H2 l (.lst ((nI (putQ pl ot k d.words)).map V.int)) l=some (.lst ((nI (putQ pl ot k d.words)).map V.int)):=zc;generalize upd H2 l (.lst ((nI (putQ pl ot k d.words)).map V.int))=H3 at *;have S13:=S2.trans S3;have hH3:=hH.mono S13;have hA3:=hA.mono S13
      have hps:∀p∈putQ pl ot k d.words,p<outs.length:=fun p hp=>by
        obtain⟨u,hu,rfl⟩:=Zp.mp hp;exact(hD u hu).2
      have lps:(putQ pl ot k d.words).length=d.words.length:=by rw[putQ,Za]
      generalize putQ pl ot k d.words=ps at *;rw[hT];clear hT T;simp only[zg,zf,↓reduceIte];refine⟨by decide,fun g hg => ?_⟩;have S4:Same H3 (upd H3 g (.lst [])):=Same.upd (Same.refl _) hg;have t4:upd H3 g (.lst []) g=some (.lst []):=zc;generalize upd H3 g (.lst [])=H4 at *;have hH4:=hH3.mono S4;have hA4:=hA3.mono S4;refine⟨_,.of hH4.at',_,z7 (v:=V.ref x.t) (by rw[Ze,hx];rfl),x.t,rfl,_,.of hA4.tup,_,rfl,x.g,rfl,⟨_,.of hA4.grid⟩,?_⟩;refine w9 (xs:=x.gs.map V.ref) (PvGl b t c l g k d ps H3) ⟨S4,[],_,t4,(by simp),⟨rfl,fun i a r e=>by simp at e⟩,rfl⟩ ?_ ?_ ?_
      . rintro i σ H5 hi ⟨S5,ls,v,h5,ng,T5,rfl⟩
        exact .of (S5 _ _ hA3.grid)
      . rintro i y σ H5 hy ⟨S5,ls,v,h5,ng,T5,rfl⟩
        obtain⟨e,he,rfl⟩:=qc hy;have hi:i<d.worths.length:=by have:=(Zc.mp he).1;have:=hA3.len;omega
        have er:d.worths[i]? = some d.worths[i]:=Zb hi;have hrow:=S5 _ _ (hA3.row i e _ he er);have hcl:=G.cols d hmd _ (Zl hi);have hl5:=S5 _ _ h3;simp only[zg,zf,↓reduceIte];refine⟨.inl ⟨rfl,_,.of h5⟩,⟨_,.of hl5⟩,fun dd => ?_⟩;refine yf (xs:=(nI ps).map V.int) (PvWc H5 d.worths[i] ps) ⟨rfl,rfl⟩ ?_ ?_ ?_
        . rintro j ys H6 hj ⟨rfl,rfl⟩
          refine⟨?_,.of hl5⟩;rw[Za,Za,Zj];exact Zd (ZB _ _) (Zd (show _<=8 by omega) (by decide))
        . rintro j y ys H6 hy ⟨rfl,rfl⟩
          obtain⟨z,hz,rfl⟩:=zba hy;rw[nI,Ze]at hz
          obtain⟨p,hpl⟩:∃y,ps[j]? = some y:=by
            cases e:ps[j]? with
            | none=>rw[e]at hz;cases hz
            | some y=>exact⟨y,rfl⟩
          rw[hpl]at hz;cases hz;have lt:=hps p (Zi hpl);rw[<-hcl]at lt;have ex:(d.worths[i])[p]? = some ((d.worths[i]).getD p 0):=by rw[Zk,Zb lt];rfl
          simp only[zg,zf,↓reduceIte];refine⟨_,.of hrow,_,v7 ex,rfl,?_⟩;rw[Zq,hpl,Zn,Zn];rfl
        . rintro ys H6 ⟨rfl,rfl⟩ l2 hl2
          rw[Za,nI,Za,Zt];have S7:Same H6 (upd H6 l2 (.lst ((ps.map fun p=>(d.worths[i]).getD p 0).map V.int))):=Same.upd (Same.refl _) hl2;have h7:upd H6 l2 (.lst ((ps.map fun p=>(d.worths[i]).getD p 0).map V.int)) l2=some (.lst ((ps.map fun p=>(d.worths[i]).getD p 0).map V.int)):=zc;have hgl:g≠l2:=fun z=>by rw[<-z,h5]at hl2;cases hl2
          generalize upd H6 l2 (.lst ((ps.map fun p=>(d.worths[i]).getD p 0).map V.int))=H7 at *;refine⟨_,S7 _ _ h5,?_,fun e u he => ?_,ls++[l2],_,by rw[zc];simp,by simp[ng,hgl],?_,rfl⟩
          . rw[Za,T5.len,Zj,colP,Za]
            exact YC (ZB _ _) (Zh (show _<9 by omega) (by decide))
          . rw[zp (fun z=>by rw[z,hg]at he;cases he)]
            exact S7 _ _ (S5 _ _ he)
          . rw[Zq,colP,Ze,er]
            have T7:=(T5.mono S7).snoc h7;refine⟨T7.len,fun j a r e1 e2 => ?_⟩
            rw[zp (fun z=>by
              have:=Zi e1;rw[z]at this
              rcases ZH.mp this with q | q
              . exact ng q
              . exact hgl (ZC.mp q))]
            exact T7.at' j a r e1 e2
      . rintro σ H5 ⟨S5,ls,v,h5,ng,T5,rfl⟩
        simp only[zg,zf,↓reduceIte];rw[Za,hA.len,ZG (by rw[colP,Za];exact Zm _)]at T5;exact q H5 g ls (S13.trans S5) h5 T5
end
def zdj(K:Fg):Sp:=fun vs H Q _=>∃(g l:Addr) (rows:List (List Int)) (n:Nat) (ps:List Int),vs=[.ref g,.ref l]/\Gd K H g rows n/\H l=some (.lst (ps.map V.int))/\ps.length=n/\Hon rows ps n/\Q (.bl true) H
def PvHo(g l:Addr)(H:Hp)(i:Nat)(σ:L2.St)(H':Hp):Prop:=H'=H/\∃v w u:Option V,σ=[some (.ref g),some (.ref l),v,w,u]
def PvHo2(g l:Addr)(t:Nat)(H:Hp)(i:Nat)(σ:L2.St)(H':Hp):Prop:=H'=H/\∃w u:Option V,σ=[some (.ref g),some (.ref l),some (.int t),w,u]
def PvHo3(g l:Addr)(t s:Nat)(H:Hp)(i:Nat)(σ:L2.St)(H':Hp):Prop:=H'=H/\∃u:Option V,σ=[some (.ref g),some (.ref l),some (.int t),some (.int s),u]
section
variable{P:Program}{w:World}{K:Fg}{mg:Str->Option Value}{base:Heap}{a:Ad}
theorem wy (D:ze K mg "_law_turn" oz ["grid", "s", "t"]):FnAt P w K mg base "_law_turn" 1 ["grid", "s", "t"] (tz K):=by
  refine FnAt.of D zb8 (fun vs H Q E h => ?_) (fun f cdv A outer s H vs Q E hr h => ?_)
  . obtain⟨g,as,rows,s,t,ns,x,y,rfl,_⟩:=h
    rfl
  . obtain⟨g,as,rows,s,t,ns,x,y,rfl,G,h1,h2,h3,q⟩:=h
    refine⟨_,(@zi _ _ _ (@zm _ _ _ _ (@zk _ _ _ _ _ _ _ _ xr (@z0 _ _ _ _ _ _ _ yc (@z0 _ _ _ _ _ _ _ yc (pv 0) (pv 2) (fun _ _=>rfl)) (pv 2) (fun _ _=>rfl)) (@z0 _ _ _ _ _ _ _ yc (@z0 _ _ _ _ _ _ _ yc (pv 0) (pv 2) (fun _ _=>rfl)) (pv 1) (fun _ _=>rfl))))),?_⟩;rw[show start ["grid", "s", "t"] [V.ref g,V.int s,V.int t]=[some (V.ref g),some (V.int s),some (V.int t)] from rfl];simp only[zg,zf,↓reduceIte];obtain⟨r,e1,e2⟩:=fb G h1;exact⟨_,G.1,_,e1,r,rfl,_,e2,_,v7 h2,_,G.1,_,e1,r,rfl,_,e2,_,v7 h3,_,rfl,_,rfl,q⟩
theorem ml (B:Bt mg) (wy:FnAt P w K mg base "_law_turn" 1 ["grid", "s", "t"] (tz K)) (D:ze K mg "_law_honest" sg ["grid", "prices"]):FnAt P w K mg base "_law_honest" 2 ["grid", "prices"] (zdj K):=by
  refine FnAt.of D sc_law_honest (fun vs H Q E h => ?_) (fun f cdv A outer s H vs Q E hr h => ?_)
  . obtain⟨g,l,rows,n,ps,rfl,_⟩:=h
    rfl
  . obtain⟨g,l,rows,n,ps,rfl,G,hl,lp,hon,q⟩:=h
    refine⟨_,(@zj _ _ _ _ _ (xc PassesOwn.never rfl (yv rfl B.range (za (zr zw rfl B.len yd (za (pv 0) (@zb _))) (@zb _))) (zn (i:=2) sc_law_honest.nd rfl (Or.inl rfl)) (@zi _ _ _ (xc PassesOwn.never rfl (yv rfl B.range (za (zr zw rfl B.len yd (za (pv 0) (@zb _))) (@zb _))) (zn (i:=3) sc_law_honest.nd rfl (Or.inl rfl)) (@zj _ _ _ _ _ (@yu _ _ _ _ _ _ _ _ (@yp _ _ _ _ _ _ _ _ zes (@zk _ _ _ _ _ _ _ _ xr (@z0 _ _ _ _ _ _ _ yc (pv 1) (pv 2) (fun _ _=>rfl)) (@z0 _ _ _ _ _ _ _ yc (pv 1) (pv 3) (fun _ _=>rfl))) (zh wy (hr.mono (by decide)) rfl (za (pv 0) (za (pv 3) (za (pv 2) (@zb _))))) (yk _)) (@zi _ _ _ (@zm _ _ _ _ (@vv _ _ _ _))) (@yg _)) (@zj _ _ _ _ _ (@yu _ _ _ _ _ _ _ _ (@yp _ _ _ _ _ _ _ _ lq (@zk _ _ _ _ _ _ _ _ yn (zh wy (hr.mono (by decide)) rfl (za (pv 0) (za (pv 3) (za (pv 2) (@zb _))))) (zh wy (hr.mono (by decide)) rfl (za (pv 0) (za (pv 2) (za (pv 3) (@zb _)))))) (@zd _ _ _ _) (yk _)) (@zi _ _ _ (@zm _ _ _ _ (@vv _ _ _ _))) (@yg _)) (@zi _ _ _ (xc PassesOwn.never rfl (yv rfl B.range (za (zr zw rfl B.len yd (za (pv 0) (@zb _))) (@zb _))) (zn (i:=4) sc_law_honest.nd rfl (Or.inl rfl)) (@zi _ _ _ (@yu _ _ _ _ _ _ _ _ (@yp _ _ _ _ _ _ _ _ lq (@zk _ _ _ _ _ _ _ _ yn (@zk _ _ _ _ _ _ _ _ yn (zh wy (hr.mono (by decide)) rfl (za (pv 0) (za (pv 3) (za (pv 2) (@zb _))))) (zh wy (hr.mono (by decide)) rfl (za (pv 0) (za (pv 2) (za (pv 4) (@zb _)))))) (zh wy (hr.mono (by decide)) rfl (za (pv 0) (za (pv 4) (za (pv 3) (@zb _)))))) (@zd _ _ _ _) (yk _)) (@zi _ _ _ (@zm _ _ _ _ (@vv _ _ _ _))) (@yg _)))))))))) (@zi _ _ _ (@zm _ _ _ _ (@vv _ _ _ _)))),?_⟩;rw[show start ["grid", "prices", "t", "s", "r"] [V.ref g,V.ref l]=[some (V.ref g),some (V.ref l),none,none,none] from rfl];simp only[zg,zf,↓reduceIte];obtain⟨as,g1,g2⟩:=G.ex;have n8:=G.n8;have hln:((as.map V.ref).length:Nat)=n:=by rw[Za,g2]
    have hgl:SqL K H g (as.map V.ref):=g1.1
    have key:∀s t,s<n->t<n->ps.getD t 0-ps.getD s 0<=zz rows s t:=fun s t hs ht=>by
      have:=hon t s ht hs;unfold zz;omega
    refine⟨_,.inl hgl,?_⟩;rw[hln];refine⟨by omega,by omega,?_⟩;rw[Zw];refine xx (PvHo g l H) ⟨rfl,_,_,_,rfl⟩ ?_ ?_
    . rintro t σ H4 ht ⟨rfl,v,w,u,rfl⟩
      rw[show(0:Int)+(t:Int)=((t:Nat):Int) by omega];have hpt:=v7 (dm (ps:=ps) (t:=t) (by omega));simp only[zg,zf,↓reduceIte];refine⟨_,.inl hgl,?_⟩;rw[hln];refine⟨by omega,by omega,?_⟩;rw[Zw];refine xx (PvHo2 g l t H4) ⟨rfl,_,_,rfl⟩ ?_ ?_
      . rintro s' σ H5 hs ⟨rfl,w,u,rfl⟩
        rw[show(0:Int)+(s':Int)=((s':Nat):Int) by omega];have hps:=v7 (dm (ps:=ps) (t:=s') (by omega));have k1:=key s' t hs ht;have k2:=key t s' ht hs;simp only[zg,zf,↓reduceIte];refine⟨_,.of hl,_,hpt,_,.of hl,_,hps,_,rfl,_,rfl,wb G hs ht ?_⟩;refine⟨_,rfl,ite2 (fun h => ?_) fun _ => ?_⟩
        . have:=of_decide_eq_true h
          omega
        refine wb G hs ht (wb G ht hs ⟨_,rfl,_,rfl,ite2 (fun h => ?_) fun _ => ?_⟩)
        . have:=of_decide_eq_true h
          omega
        refine⟨_,.inl hgl,?_⟩;rw[hln];refine⟨by omega,by omega,?_⟩;rw[Zw];refine xx (PvHo3 g l t s' H5) ⟨rfl,_,rfl⟩ ?_ ?_
        . rintro r σ H6 hr ⟨rfl,u,rfl⟩
          rw[show(0:Int)+(r:Int)=((r:Nat):Int) by omega];have k3:=key t r ht hr;have k4:=key r s' hr hs;simp only[zg,zf,↓reduceIte];refine wb G hs ht (wb G ht hr ⟨_,rfl,_,rfl,wb G hr hs ⟨_,rfl,ite2 (fun h => ?_) fun _=>⟨rfl,_,rfl⟩⟩⟩);have:=of_decide_eq_true h;omega
        . rintro σ H6 ⟨rfl,u,rfl⟩
          exact⟨rfl,_,_,rfl⟩
      . rintro σ H5 ⟨rfl,w,u,rfl⟩
        exact⟨rfl,_,_,_,rfl⟩
    . rintro σ H4 ⟨rfl,v,w,u,rfl⟩
      simp only[zg,zf,↓reduceIte];exact q
end
theorem zak{zs:List Str}{z:Str}{t:Nat}(nd:zs.Nodup)(h:zs[t]? = some z):zs.idxOf z=t:=by
  have le:=gz h;have hm:z∈zs:=Zi h;have hx:=Zz.mpr hm
  rcases Nat.lt_or_eq_of_le le with hlt | e
  . exfalso
    obtain⟨ht,et⟩:=Zc.mp h;have:=ZZ.mp nd _ t hx ht hlt;rw[et,List.getElem_idxOf hx]at this;exact this rfl
  . exact e
def ub(mk:List (Key×V))(ft:List Str->Str)(ot:List Str)(k:Nat)(us:List Str):List Int:=us.map fun u=>(xz mk (ft (insP ot k u))).getD 0
theorem hon48{outs:List Str}{ds:List HD}{d:HD}{mk:List (Key×V)}{ft:List Str->Str}{ot:List Str}{k:Nat}(G:GoodHouse outs ds)(hmd:d∈ds)(hB:∀u∈d.words,∃i,fq mk outs (wj d u) i (ft (insP ot k u))):Hon (colP d (putQ (fun r=>outs.idxOf (ft r)) ot k d.words)) (ub mk ft ot k d.words) d.words.length:=by
  intro t s ht hs;have ro:=G.rows d hmd;have htw:t<d.worths.length:=by omega
  have ewt:wj d d.words[t]=d.worths[t]:=by
    rw[wj,zak (G.wordsD d hmd) (Zb ht),Zk,Zb htw];rfl
  obtain⟨it,a1,w,p,a2,a3,a4⟩:=hB _ (Zl ht);obtain⟨is,b1,w',p',b2,b3,b4⟩:=hB _ (Zl hs);rw[ewt]at a2 a4;have hcl:=G.cols d hmd _ (Zl htw);have lis:=(Zc.mp b1).1
  have gc:∀(s:Nat) (hs:s<d.words.length),gcA (colP d (putQ (fun r=>outs.idxOf (ft r)) ot k d.words)) t s=(d.worths[t]).getD (outs.idxOf (ft (insP ot k d.words[s]))) 0:=fun s hs=>by
    unfold gcA colP putQ;simp[Zk,Zb htw,Zb hs]
  have pq:∀(s:Nat) (hs:s<d.words.length),(ub mk ft ot k d.words).getD s 0=(xz mk (ft (insP ot k d.words[s]))).getD 0:=fun s hs=>by
    unfold ub;simp[Zk,Zb hs]
  rw[gc s hs,gc t ht,pq s hs,pq t ht,zak G.outsD a1,zak G.outsD b1,a3,b3];have e2:(d.worths[t])[is]? = some ((d.worths[t])[is]'(by omega)):=Zb _;have:=(a4 is _ _ _ b1 e2 b3).1;rw[Zk,Zk,a2,e2]
  show _-w<=p'-p
  simp only[YL];omega
theorem zg6{α:Type}{o:List α}{wss:List (List α)}{k:Nat}{ws:List α}{u:α}(hk:wss[k]? = some ws)(h:au o (wss.eraseIdx k))(hu:u∈ws):au (insP o k u) wss:=by
  have hkl:=(Zc.mp hk).1;have lo:o.length+1=wss.length:=by have:=h.1;rw[ZL hkl]at this;omega
  refine⟨by rw[ziu u (by omega)];exact lo,fun j vs e => ?_⟩
  by_cases ej:j=k
  . subst ej
    rw[hk]at e;cases e;exact⟨u,zdd u (by omega),hu⟩
  . have lt:(o.take k).length=k:=by rw[Zj];omega
    by_cases hj:j<k
    . obtain⟨z,a1,a2⟩:=h.2 j vs (by rw[ZS,if_pos hj];exact e)
      refine⟨z,?_,a2⟩;rw[insP,Zg (by omega),List.getElem?_take,if_pos hj];exact a1
    . obtain⟨z,a1,a2⟩:=h.2 (j-1) vs (by rw[ZS,if_neg (by omega),show j-1+1=j by omega];exact e)
      refine⟨z,?_,a2⟩;rw[insP,Zf (by omega),lt];obtain⟨i,hi⟩:∃i,j-k=i+1:=⟨j-k-1,by omega⟩;rw[hi,YE,YB];rw[show k+i=j-1 by omega];exact a1
theorem col_gd{K:Fg}{H:Hp}{g:Addr}{ls:List Addr}{d:HD}{ps:List Nat}{outs:List Str}{ds:List HD}(G:GoodHouse outs ds)(hd:d∈ds)(hp:ps.length=d.words.length)(hg:H g=some (.lst (ls.map V.ref)))(I:IntsAt H ls (colP d ps)):Gd K H g (colP d ps) d.words.length:=by
  have h8:=(G.words1 d hd).2;have ro:=G.rows d hd;have lr:(colP d ps).length=d.words.length:=by rw[colP,Za];exact ro
  refine⟨⟨ls,⟨.of hg,by rw[I.len],fun i r ns a1 a2=>.of (I.at' i r ns a1 a2)⟩,by rw[I.len,lr]⟩,fun i hi=>⟨(colP d ps)[i]'(by omega),Zb (by omega),?_⟩,h8⟩;have hm:(colP d ps)[i]'(by omega)∈colP d ps:=Zl _;generalize (colP d ps)[i]'(by omega)=r at *;obtain⟨r',_,rfl⟩:=Zp.mp hm;rw[Za,hp]
theorem zgd{H:Hp}:∀{R:List (List Str)} {ms as:List Addr},ms.length=R.length->mh H (yq R ms) as->TupsAt H as R
  | [],[],as,_,h=>by
    cases h;exact TupsAt.nil
  | [],_::_,_,h,_=>by cases h
  | _::_,[],_,h,_=>by cases h
  | r::R,c::ms,as,hl,h=>by
    cases h with
    | cons h1 h2=>exact(TupsAt.one (r:=r) (by rw[<-xw];exact h1)).append (zgd (by simpa using hl) h2)
theorem HandsL.lsts{H H':Hp}{b:Addr}{xs:List HX}{ds:List HD}(S:∀c xs,H c=some (.tup xs)->H' c=some (.tup xs))(S2:∀c xs,H c=some (.lst xs)->H' c=some (.lst xs))(g:HandsL H b xs ds):HandsL H' b xs ds :=
  ⟨S2 _ _ g.at',g.len,fun i x d e1 e2=>let q:=g.hand i x d e1 e2;⟨S _ _ q.tup,S2 _ _ q.words,S2 _ _ q.grid,q.len,fun i r ns e1 e2=>S2 _ _ (q.row i r ns e1 e2)⟩⟩
def zen(K:Fg):Sp:=fun vs H Q _=>∃(a:Addr) (ns:List Int),vs=[.ref a]/\SqL K H a (ns.map V.int)/\ns.length<=63/\∀H',Q (.bl true) H'
theorem zhb {K:Fg} {f:Addr} {fd:FuncData} (F:Fun K "law" "law" i5 f fd) (s:Shared) (u:Value):BindsTo s fd ⟨[u],[]⟩ [("script", u)]:=by
  obtain⟨oc,od,kV,doc,pm,an,cdv,ct,osl,rfl,lk,hcd⟩:=F.ex;exact .of_eq rfl
def tops38:List Int:=[5,3,2,2]
theorem bn:Tops tops38:=⟨rfl,by decide⟩
theorem zd3:FewT tops38:=by unfold FewT;decide
def PvP48(st:L2.St)(H:Hp)(pd rl:Addr)(ra:List Addr)(pl:List Str->Nat)(rs:List (List Str))(i:Nat)(σ:L2.St)(H':Hp):Prop:=Same H H'/\H' pd=some (.dT (wq pl (rs.take i)))/\RwsAt H' rl ra rs/\∃v1,σ=st++[v1,none,none,none,none]
def PvM48(st:L2.St)(H:Hp)(i:Nat)(σ:L2.St)(H':Hp):Prop:=Same H H'/\∃v1 v2 v3,σ=st++[v1,v2,v3,none]
def PvG48(H:Hp)(ft:List Str->Str)(o:List Str)(k:Nat)(us:List Str)(i:Nat)(ys:List V)(H':Hp):Prop:=Same H H'/\ys=((us.take i).map fun u=>ft (insP o k u)).map V.str
def PvQ48(H:Hp)(mk:List (Key×V))(ft:List Str->Str)(o:List Str)(k:Nat)(us:List Str)(i:Nat)(ys:List V)(H':Hp):Prop:=H'=H/\ys=(ub mk ft o k (us.take i)).map V.int
section
variable{P:Program}{w:World}{K:Fg}{mg:Str->Option Value}{base:Heap}{a:Ad}
theorem law_fn (B:Bt mg) (C:Ct K mg a) (yr:FnAt P w K mg base "_law_cell_at" 1 ["script", "k"] (ny K)) (l8:FnAt P w K mg base "_law_parts" 3 ["script", "tops"] (zdh K)) (e5:FnAtX P w K mg base "house_of" 7 ["outcomes", "hands"] zax) (sx:FnAt P w K mg base "_law_rows" 1 ["hands"] cp) (kd:FnAt P w K mg base "_law_menus" 3 ["script", "outcomes", "hands", "k"] (zc9 K)) (p0:FnAtX P w K mg base "menus_table" 5 ["house", "k", "menus"] (zah K)) (jc:FnAt P w K mg base "_law_grid" 1 ["hands", "places", "k", "others"] zds) (ml:FnAt P w K mg base "_law_honest" 2 ["grid", "prices"] (zdj K)) (jy:FnAt P w K mg base "verdict" 9 ["house", "table"] (bz K)) {f:Addr} {fd:FuncData} (F:Fun K "law" "law" i5 f fd):FnOk P w K mg base CX0 10 f fd ["script"] (zen K):=by
  refine F.ok sc_law (fun vs H Q E h=>by obtain⟨b,ns,rfl,_⟩:=h;rfl) (fun cdv A outer s H vs Q E hr h => ?_);obtain⟨a,ns,rfl,hS,hlen,q⟩:=h;refine⟨_,(@zj _ _ _ _ _ (db (zh l8 (hr.mono (by decide)) rfl (@za _ _ _ _ _ (pv 0) (@za _ _ _ _ _ (@xp _ _ _ _ (@za _ _ _ _ _ (@zd _ _ _ _) (@za _ _ _ _ _ (@zd _ _ _ _) (@za _ _ _ _ _ (@zd _ _ _ _) (@za _ _ _ _ _ (@zd _ _ _ _) (@zb _) (yo nofun)) (yo nofun)) (yo nofun)) (yo nofun))) (@zb _) (yo nofun)) (yo nofun))) (si rfl (y0 (zn (i:=1) sc_law.nd rfl (Or.inl rfl)) (y0 (zn (i:=2) sc_law.nd rfl (Or.inl rfl)) (@uk _))))) (@zj _ _ _ _ _ (zy (i:=3) sc_law.nd rfl (Or.inl rfl) (fc e5 (hr.mono (by decide)) rfl (za (pv 1) (za (pv 2) (@zb _))))) (@zj _ _ _ _ _ (zy (i:=4) sc_law.nd rfl (Or.inr rfl) (@zk _ _ _ _ _ _ _ _ ye (zh yr (hr.mono (by decide)) rfl (za (pv 0) (za (@zd _ _ _ _) (@zb _)))) (zr zw rfl B.len yd (za (pv 2) (@zb _))))) (@zj _ _ _ _ _ (zy (i:=5) sc_law.nd rfl (Or.inr rfl) (zh kd (hr.mono (by decide)) rfl (za (pv 0) (za (pv 1) (za (pv 2) (za (pv 4) (@zb _))))))) (@zj _ _ _ _ _ (zy (i:=6) sc_law.nd rfl (Or.inr rfl) (fc p0 (hr.mono (by decide)) rfl (za (pv 3) (za (pv 4) (za (pv 5) (@zb _)))))) (@zj _ _ _ _ _ (zy (i:=7) sc_law.nd rfl (Or.inl rfl) (@zab _ _)) (@zj _ _ _ _ _ (xc PassesOwn.never rfl (@yb _ _ _ _ (zh sx (hr.mono (by decide)) rfl (za (pv 2) (@zb _)))) (zn (i:=8) sc_law.nd rfl (Or.inl rfl)) (@zi _ _ _ (db (jb PySem.F.plainAttrs_list PySem.F.slot_list_index PySem.F.type_list_index zf9 (pv 1) (za (@tu _ _ _ _ _ _ (hu10 hr) (pv 6) (pv 8) (fun _ _=>rfl)) (@zb _))) (zbg (pv 7) (pv 8) (fg (hu10 hr)))))) (@zj _ _ _ _ _ (xc PassesOwn.never rfl (@zil _ _ _ _ (pv 5)) (zn (i:=9) sc_law.nd rfl (Or.inr rfl)) (@zj _ _ _ _ _ (vm (i:=10) ["word"] ["script", "outcomes", "hands", "house", "k", "menus", "table", "places", "row", "others", "got", "prices", "found"] sc_law.nd rfl rfl rfl (@yb _ _ _ _ (@z0 _ _ _ _ _ _ _ ym (@z0 _ _ _ _ _ _ _ yc (pv 2) (pv 4) (fun _ _=>rfl)) (@zd _ _ _ _) (fun _ _=>rfl))) (fun _=>(zn (i:=0) (show(["word", "script", "outcomes", "hands", "house", "k", "menus", "table", "places", "row", "others", "got", "prices", "found"]:List Str).Nodup by decide +kernel) rfl (Or.inl rfl))) (fun _=>(@z8 _)) (fun _=>(@tu _ _ _ _ _ _ (hu10 hr) (pv 7) (@zk _ _ _ _ _ _ _ _ uj (@zk _ _ _ _ _ _ _ _ uj (@xt _ _ _ _ _ _ _ _ _ _ o6 (pv 10) (@we _) (@xy _ _ _ (pv 5))) (@y6 _ _ _ _ _ (za (pv 0) (@zb _)))) (@xt _ _ _ _ _ _ _ _ _ _ o6 (pv 10) (@xy _ _ _ (pv 5)) (@we _))) (fun _ _=>rfl))) rfl (by decide +kernel) rfl rfl rfl) (@zj _ _ _ _ _ (vm (i:=11) ["outcome"] ["script", "outcomes", "hands", "house", "k", "menus", "table", "places", "row", "others", "got", "prices", "found"] sc_law.nd rfl rfl rfl (@yb _ _ _ _ (pv 10)) (fun _=>(zn (i:=0) (show(["outcome", "script", "outcomes", "hands", "house", "k", "menus", "table", "places", "row", "others", "got", "prices", "found"]:List Str).Nodup by decide +kernel) rfl (Or.inl rfl))) (fun _=>(@z8 _)) (fun _=>(@tu _ _ _ _ _ _ (hu10 hr) (@tu _ _ _ _ _ _ (hu10 hr) (pv 6) (pv 10) (fun _ _=>rfl)) (pv 0) (fun _ _=>rfl))) rfl (by decide +kernel) rfl rfl rfl) (@zi _ _ _ (@yu _ _ _ _ _ _ _ _ (@x6 _ _ _ _ (wm (zh ml (hr.mono (by decide)) rfl (za (zh jc (hr.mono (by decide)) rfl (za (pv 2) (za (pv 7) (za (pv 4) (za (pv 9) (@zb _)))))) (za (pv 11) (@zb _)))))) (@zi _ _ _ (@zm _ _ _ _ (@vv _ _ _ _))) (@yg _)))))) (@zj _ _ _ _ _ (zy (i:=12) sc_law.nd rfl (Or.inl rfl) (zh jy (hr.mono (by decide)) rfl (za (pv 3) (za (pv 6) (@zb _))))) (@zi _ _ _ (@zm _ _ _ _ (@pe_or _ _ _ _ _ _ _ (@tw _ _ _ _ _ _ _ _ sv (@z0 _ _ _ _ _ _ _ ym (pv 12) (@zd _ _ _ _) (fun _ _=>rfl)) (@u0 _ _ _ _) (yk _)) (@q8 _ _ _ _ _ (@tw _ _ _ _ _ _ _ _ dq (@z0 _ _ _ _ _ _ _ ym (pv 12) (@zd _ _ _ _) (fun _ _=>rfl)) (pv 4) (yk _))))))))))))))),?_⟩;rw[show start ["script", "outcomes", "hands", "house", "k", "menus", "table", "places", "row", "others", "got", "prices", "found"] [V.ref a]=[some (V.ref a),none,none,none,none,none,none,none,none,none,none,none,none] from rfl];refine hide4 fun T hT => ?_
  simp only[zg,zf,↓reduceIte];refine⟨by decide,fun tp htp => ?_⟩;have S0:Same H (upd H tp (.lst [V.int 5,V.int 3,V.int 2,V.int 2])):=Same.upd (Same.refl _) htp;have hTp:upd H tp (.lst [V.int 5,V.int 3,V.int 2,V.int 2]) tp=some (.lst (tops38.map V.int)):=zc;generalize upd H tp (.lst [V.int 5,V.int 3,V.int 2,V.int 2])=H0 at *;refine⟨a,tp,ns,tops38,rfl,S0.seq hS,.of hTp,bn,fun H1 H2 H3 o b p xs S1 ho ho1 N hp e3 => ?_⟩;subst e3;have S3:Same H2 (upd H2 p (.tup [V.ref o,V.ref b])):=Same.upd (Same.refl _) hp;have hp3:upd H2 p (.tup [V.ref o,V.ref b]) p=some (.tup [V.ref o,V.ref b]):=zc;generalize upd H2 p (.tup [V.ref o,V.ref b])=H3 at *;simp only[zg,zf,↓reduceIte];refine⟨_,.of hp3,rfl,?_⟩;simp only[zg,zf,↓reduceIte];have G:=goodA ns bn zd3;have oF:H3 o=some (.lst ((qq ns).map V.str)):=(N.same.trans S3) _ _ ho1;have bF:HandsL H3 b xs (ww ns tops38 (w5 ns)):=N.lists.mono S3;have S03:Same H H3:=S0.trans (S1.trans (N.same.trans S3));generalize ww ns tops38 (w5 ns)=ds at *;generalize qq ns=outs at *;refine⟨o,b,outs,xs,ds,rfl,oF,bF,G,fun H4 p ko kh hs S4 hK => ?_⟩;simp only[zg,zf,↓reduceIte];have S04:=S03.trans S4;have b4:=bF.mono S4;have h4:=G.hands;refine⟨a,ns,4,rfl,S04.seq hS,?_⟩;simp only[zg,zf,↓reduceIte];refine⟨_,.inl (.of b4.at'),?_⟩;rw[Za,b4.len];have hk4:=yt (zt ns 4) (show(0:Int)<(ds.length:Int) by omega);obtain⟨k,ek⟩:∃k:Nat,zt ns 4 % (ds.length:Int)=(k:Int):=⟨(zt ns 4 % (ds.length:Int)).toNat,by omega⟩;rw[ek]at hk4 ⊢;have hk':k<ds.length:=by omega
  obtain⟨d,ed⟩:∃d,ds[k]? = some d:=⟨ds[k],Zb hk'⟩;obtain⟨x,ex⟩:∃x,xs[k]? = some x:=⟨xs[k]'(by rw[b4.len];exact hk'),by simp⟩;refine⟨by omega,?_⟩;have o4:=S4 _ _ oF;rw[hT];clear hT T;refine⟨a,o,b,ns,outs,xs,ds,k,d,rfl,S04.seq hS,o4,b4,G,ed,fun H5 m ms N5 => ?_⟩;have S5:=N5.same;have hG:=G.hand (Zi ed);have hmd:=Zi ed;have ho8:=G.outs1
  have fOk0:∀fm:Nat->List (Key×V),fm=(fun j=>w4 ns outs (wsA d j) j outs.length)->∀j,MenuOk outs (fm j)/\(fm j).length<=outs.length/\(0<outs.length->0<(fm j).length):=fun fm e j=>by
    rw[e];exact gr ho8.1 ho8.2 _ ho8.2
  have hperm:=bu ns (zx ((ds.eraseIdx k).map HD.words))
  have nd:(zx ((ds.eraseIdx k).map HD.words)).Nodup:=qy fun vs hvs=>by
    obtain⟨d,hd,rfl⟩:=Zp.mp hvs;exact G.wordsD d (ZO hd)
  generalize ordA ns (zx ((ds.eraseIdx k).map HD.words))=R at *;generalize (fun j=>w4 ns outs (wsA d j) j outs.length)=fm at *;have fOk:=fOk0 fm rfl;have ndR:R.Nodup:=hperm.nodup_iff.mpr nd
  have valR:∀r∈R,∃j me,R[j]? = some r/\ms[j]? = some me/\valV (yq R ms) (ya r)=some (V.ref me)/\H5 me=some (.dK (fm j)):=fun r hr=>by
    obtain⟨j,hj⟩:=Ys hr;have lj:=(Zc.mp hj).1;have hme:ms[j]? = some (ms[j]'(by rw[N5.len];exact lj)):=Zb _;exact⟨j,_,hj,hme,zef N5.len ndR hj hme,N5.menu j _ hme⟩
  have MM:MenusAt H5 m (yq R ms) outs (zx ((ds.eraseIdx k).map HD.words)):=by
    refine⟨N5.at',?_,fun r hr => ?_⟩
    . rw[yq,List.length_zipWith,N5.len,Nat.min_self,hperm.length_eq]
    . obtain⟨j,me,_,_,v1,v2⟩:=valR r (hperm.mem_iff.mpr hr)
      exact⟨me,_,v1,v2,(fOk j).1,(fOk j).2.2 ho8.1,Zd (fOk j).2.1 ho8.2⟩
  refine hide3 fun T hT => ?_
  simp only[zg,zf,↓reduceIte];refine⟨p,ko,kh,m,hs,outs,ds,k,d,_,rfl,hK.mono S5,G,ed,MM,fun H7 t ft S7 ht7 t7 pk => ?_⟩
  have IN:∀(k:Nat) (d:HD) (ot:List Str),ds[k]? = some d->ot∈zx ((ds.eraseIdx k).map HD.words)->k<=ot.length/\ot.length<=8/\∀u∈d.words,insP ot k u∈zx (ds.map HD.words):=by
    intro k d ot hd hot;have kl:=(Zc.mp hd).1;have lo:=(rowsP_iff.mp hot).1;rw[Za,ZL kl]at lo;rw[ve]at hot;exact⟨by omega,by omega,fun u hu=>rowsP_iff.mpr (zg6 (by rw[Ze,hd];rfl) (rowsP_iff.mp hot) hu)⟩
  have HB:∀ot∈zx ((ds.eraseIdx k).map HD.words),∃j me,valV (yq R ms) (ya ot)=some (V.ref me)/\me∈ms/\H5 me=some (.dK (fm j))/\∀u∈d.words,∃i,fq (fm j) outs (wj d u) i (ft (insP ot k u)):=fun ot hot=>by
    obtain⟨j,me,_,e2,v1,v2⟩:=valR ot (hperm.mem_iff.mpr hot);obtain⟨i1,i2,i3⟩:=IN k d ot ed hot;refine⟨j,me,v1,Zi e2,v2,fun u hu => ?_⟩;have:=pk _ (i3 u hu) me (fm j) (by rw[zfb u i1];exact v1) v2;rw[Zk,zdd u i1]at this;exact this
  have inO:∀r∈zx (ds.map HD.words),ft r∈outs:=fun r hr=>by
    obtain⟨j,me,_,_,v1,v2⟩:=valR _ (hperm.mem_iff.mpr (bf hr k));obtain⟨i,hb⟩:=pk r hr me (fm j) v1 v2;exact Zi hb.1
  have few:=ua (wss:=ds.map HD.words) (by rw[Za];exact h4.2) (fun ws hws=>by
    obtain⟨d,hd,rfl⟩:=Zp.mp hws
    exact(G.words1 d hd).2) _ (Zm _)
  rw[Zt]at few
  have ndr:(zx (ds.map HD.words)).Nodup:=qy fun vs hvs=>by
    obtain⟨d,hd,rfl⟩:=Zp.mp hvs;exact G.wordsD d hd
  intro pd hpd;have S8:Same H7 (upd H7 pd (.dT [])):=Same.upd (Same.refl _) hpd;have t8:upd H7 pd (.dT []) pd=some (.dT []):=zc;generalize upd H7 pd (.dT [])=H8 at *;have S48:=S5.trans (S7.trans S8);refine⟨b,xs,ds,rfl,b4.mono S48,h4.2,fun d hd=>(G.words1 d hd).2,fun H9 rl ra S9 R9 => ?_⟩;refine⟨rl,rfl,⟨_,.of R9.lst⟩,?_⟩;refine w9 (xs:=ra.map V.ref) (PvP48 [some (V.ref a),some (V.ref o),some (V.ref b),some (V.ref p),some (V.int k),some (V.ref m),some (V.ref t),some (V.ref pd)] H7 pd rl ra (fun r=>outs.idxOf (ft r)) (zx (ds.map HD.words))) ⟨S8.trans S9,S9 _ _ t8,R9,_,rfl⟩ ?_ ?_ ?_
  . rintro i σ Hc hi ⟨Sc,hc,Rc,v1,rfl⟩
    exact .of Rc.lst
  . rintro i y σ Hc hy ⟨Sc,hc,Rc,v1,rfl⟩
    obtain⟨c,hcx,rfl⟩:=qc hy;have hi:i<(zx (ds.map HD.words)).length:=by have:=(Zc.mp hcx).1;have:=Rc.tups.len;omega
    have er:(zx (ds.map HD.words))[i]? = some (zx (ds.map HD.words))[i]:=Zb hi;have hrow:=Rc.tups.at' i c _ hcx er;have hrm:(zx (ds.map HD.words))[i]∈zx (ds.map HD.words):=Zl hi
    have hri:(zx (ds.map HD.words))[i]∉(zx (ds.map HD.words)).take i:=fun z=>by
      obtain⟨j,hj⟩:=Ys z;have lj:=(Zc.mp hj).1;rw[Zj]at lj;rw[Yb (by omega)]at hj;exact ZZ.mp ndr j i (by omega) hi (by omega) (Zc.mp hj).2
    generalize (zx (ds.map HD.words))[i]=r at er hrow hrm hri;have oc:=Sc _ _ ((S5.trans S7) _ _ o4);have gt:=DGet.t (k:=ya r) (Sc _ _ t7) (b:=c) (by rw[xw];exact hrow);rw[kx hrm]at gt;simp only[zg,zf,↓reduceIte,Yk,Yo];have cnm:∀(n:Nat) e u,e≠pd->Hc e=some u->upd Hc pd (.dT (putK (wq (fun r=>outs.idxOf (ft r)) ((zx (ds.map HD.words)).take i)) (ya r) (V.int n))) e=some u:=fun n e u he h=>by rw[zp he];exact h
    refine⟨.inl ⟨rfl,_,.of oc⟩,_,gt,_,.of oc,_,ig (inO r hrm),_,DPut.t (k:=ya r) hc (by rw[xw];exact hrow) ?_,fun e u h => ?_,?_,⟨?_,⟨Rc.tups.len,fun j e r' e1 e2 => ?_⟩⟩,_,rfl⟩
    . rw[wq,Za,Zj]
      exact Zh (show _<8192 by omega) (by decide)
    . exact cnm _ _ _ (fun z=>by rw[z,hpd]at h;cases h) (Sc _ _ h)
    . rw[zc,zbz hri,Zq,er]
      have:(fun q=>if q=r then outs.idxOf (ft r) else(fun r=>outs.idxOf (ft r)) q)=fun r=>outs.idxOf (ft r):=by
        funext q
        by_cases e:q=r
        . rw[if_pos e,e]
        . rw[if_neg e]
      rw[this];rfl
    . exact cnm _ _ _ (fun z=>by have:=Rc.lst;rw[z,hc]at this;cases this) Rc.lst
    . have h1:=Rc.tups.at' j e r' e1 e2
      exact cnm _ _ _ (fun z=>by rw[z,hc]at h1;cases h1) h1
  . rintro σ H10 ⟨S10,p10,_,v1,rfl⟩
    rw[Za,R9.tups.len,Zt]at p10;rw[hT];clear hT T;dsimp only;refine av fun T hT => ?_
    simp only[zg,zf,↓reduceIte,Yk,Yo];have m10:=(S7.trans S10) _ _ N5.at';refine⟨_,m10,fun ob as hk => ?_⟩;have T10:=zgd N5.len hk;have kk:∀c u,c≠m->H10 c=some u->upd H10 m (.frz ob (.dT (yq R ms))) c=some u:=fun c u hc h=>by rw[zp hc];exact h
    have ktup:∀c us,H10 c=some (.tup us)->upd H10 m (.frz ob (.dT (yq R ms))) c=some (.tup us):=fun c us h=>kk c _ (fun z=>by rw[z,m10]at h;cases h) h
    have klst:∀c us,H10 c=some (.lst us)->upd H10 m (.frz ob (.dT (yq R ms))) c=some (.lst us):=fun c us h=>kk c _ (fun z=>by rw[z,m10]at h;cases h) h
    have S410:=S5.trans (S7.trans S10);have b11:=(b4.mono S410).lsts ktup klst;have o11:=klst _ _ (S410 _ _ o4);have hK11:=(hK.mono S410).tups ktup;have t11:=kk _ _ (fun z=>by have:=N5.at';rw[<-z,ht7]at this;cases this) (S10 _ _ t7);have p11:=kk _ _ (fun z=>by have:=S7 _ _ N5.at';rw[<-z,hpd]at this;cases this) p10;have me11:∀me∈ms,∀u,H5 me=some u->upd H10 m (.frz ob (.dT (yq R ms))) me=some u:=fun me hme u h=>kk _ _ (fun z=>N5.ne (z▸hme)) ((S7.trans S10) _ _ h)
    have T11:TupsAt (upd H10 m (.frz ob (.dT (yq R ms)))) as R:=⟨T10.len,fun i a r e1 e2=>ktup _ _ (T10.at' i a r e1 e2)⟩;have fz:upd H10 m (.frz ob (.dT (yq R ms))) m=some (.frz ob (.dT (yq R ms))):=zc;generalize upd H10 m (.frz ob (.dT (yq R ms)))=H11 at *;have A11:=b11.hand k x d ex ed;have w8:=(G.words1 d hmd).2;refine zf4 (PvM48 [some (V.ref a),some (V.ref o),some (V.ref b),some (V.ref p),some (V.int k),some (V.ref m),some (V.ref t),some (V.ref pd),v1] H11) ⟨Same.refl _,_,_,_,rfl⟩ ?_ ?_ ?_
    . rintro i σ H12 hi ⟨S12,w1,w2,w3,rfl⟩
      exact S12 _ _ fz
    . rintro i c σ H12 hc ⟨S12,w1,w2,w3,rfl⟩
      have hi:i<R.length:=by rw[<-T10.len];exact(Zc.mp hc).1
      have hrow:=S12 _ _ (T11.at' i c _ hc (Zb hi));have hot:=hperm.mem_iff.mp (Zl hi);generalize R[i]=ot at hrow hot;obtain⟨i1,i2,i3⟩:=IN k d ot ed hot;obtain⟨j,me,vme,hme,h5me,hB⟩:=HB ot hot;have b12:=b11.mono S12;have A12:=A11.mono S12;have t12:=S12 _ _ t11;rw[zcz];refine av fun T2 hT2 => ?_
      simp only[zg,zf,↓reduceIte,Yk,Yo];refine⟨_,.of b12.at',_,z7 (v:=V.ref x.t) (by rw[Ze,ex];rfl),x.t,rfl,_,.of A12.tup,_,rfl,x.w,rfl,⟨_,.of A12.words⟩,fun dd => ?_⟩;refine yf (xs:=d.words.map V.str) (PvG48 H12 ft ot k d.words) ⟨Same.refl _,rfl⟩ ?_ ?_ ?_
      . rintro i ys H2 hi ⟨S2,rfl⟩
        refine⟨?_,.of (S2 _ _ A12.words)⟩;rw[Za,Za,Zj];exact Zd (ZB _ _) (Zd w8 (by decide))
      . rintro i y ys H2 hy ⟨S2,rfl⟩
        obtain⟨u,hu,rfl⟩:=yl hy;have z1:=i3 u (Zi hu);simp only[zg,zf,↓reduceIte];refine⟨_,S2 _ _ hrow,fun H1 p1 S1 h1=>⟨by decide,fun p2 hp2 => ?_⟩⟩;rw[o7 (by rw[Za];exact i1)]at h1;have T2:Same H1 (upd H1 p2 (.tup [V.str u])):=Same.upd (Same.refl _) hp2;refine⟨_,T2 _ _ h1,_,zc,?_,fun H3 p3 S3 h3 => ?_⟩
        . rw[Zj,Za]
          exact Zd (show _<=9 by simp;omega) (by decide)
        have S23:=S2.trans (S1.trans (T2.trans S3));refine⟨_,S23 _ _ hrow,fun H4 p4 S4 h4 => ?_⟩;rw[tq (by rw[Za];exact i1)]at h4;refine⟨_,S4 _ _ h3,_,h4,?_,fun H5 p5 S5 h5 => ?_⟩
        . simp only[Zo,Zj,ZP,Za,ZN,ZX]
          exact Zd (show _<=17 by omega) (by decide)
        have S25:=S23.trans (S4.trans S5)
        have hr5:H5 p5=some (.tup ((insP ot k u).map V.str)):=by
          rw[h5,insP];simp
        have gt:=DGet.t (k:=ya (insP ot k u)) (S25 _ _ t12) (b:=p5) (by rw[xw];exact hr5);rw[kx z1]at gt;refine⟨_,gt,S25,?_⟩;rw[Zq,hu];simp
      . rintro ys H13 ⟨S13,rfl⟩ l hl
        rw[Za,Zt];have S14:Same H13 (upd H13 l (.lst ((d.words.map fun u=>ft (insP ot k u)).map V.str))):=Same.upd (Same.refl _) hl;have h14:upd H13 l (.lst ((d.words.map fun u=>ft (insP ot k u)).map V.str)) l=some (.lst ((d.words.map fun u=>ft (insP ot k u)).map V.str)):=zc;generalize upd H13 l (.lst ((d.words.map fun u=>ft (insP ot k u)).map V.str))=H14 at *;have S1214:=S13.trans S14;have S1114:=S12.trans S1214;rw[hT2];clear hT2 T2;simp only[zg,zf,↓reduceIte];have c14:=S1214 _ _ hrow;have gm:DGet H14 m (V.ref c) (valV (yq R ms) (ya ot)):=.inr ⟨yq R ms,ya ot,c,.inr ⟨ob,S1114 _ _ fz⟩,rfl,by rw[xw];exact c14,rfl⟩;rw[vme]at gm;have me14:=S1114 _ _ (me11 me hme _ h5me);refine⟨⟨_,.of h14⟩,fun dd => ?_⟩;refine yf (xs:=(d.words.map fun u=>ft (insP ot k u)).map V.str) (PvQ48 H14 (fm j) ft ot k d.words) ⟨rfl,rfl⟩ ?_ ?_ ?_
        . rintro i ys H2 hi ⟨rfl,rfl⟩
          refine⟨?_,.of h14⟩;rw[Za,ub,Za,Zj];exact Zd (ZB _ _) (Zd w8 (by decide))
        . rintro i y ys H2 hy ⟨rfl,rfl⟩
          rw[Ze,Ze]at hy
          obtain⟨u,hu⟩:∃y,d.words[i]? = some y:=by
            cases e:d.words[i]? with
            | none=>rw[e]at hy;cases hy
            | some y=>exact⟨y,rfl⟩
          rw[hu]at hy;cases hy;obtain⟨_,_,w',p',_,hp',_⟩:=hB u (Zi hu);have gk:=DGet.k (k:=Sum.inr (ft (insP ot k u))) me14;rw[(fOk j).1.val,hp']at gk;simp only[zg,zf,↓reduceIte];refine⟨_,gm,_,rfl,_,gk,rfl,?_⟩;rw[Zq,hu];simp[ub,hp']
        . rintro ys H15 ⟨rfl,rfl⟩ pl hpl
          rw[Za,Za,Zt];have S16:Same H15 (upd H15 pl (.lst ((ub (fm j) ft ot k d.words).map V.int))):=Same.upd (Same.refl _) hpl;have h16:upd H15 pl (.lst ((ub (fm j) ft ot k d.words).map V.int)) pl=some (.lst ((ub (fm j) ft ot k d.words).map V.int)):=zc;generalize upd H15 pl (.lst ((ub (fm j) ft ot k d.words).map V.int))=H16 at *;have S1116:=S1114.trans S16;refine⟨b,pd,c,xs,outs,ds,_,_,ot,k,d,rfl,b11.mono S1116,G,S1116 _ _ p11,ed,S16 _ _ c14,i1,i2,fun u hu=>⟨i3 u hu,Zz.mpr (inO _ (i3 u hu))⟩,fun H17 gl ls S17 hgl I17 => ?_⟩;exact⟨gl,pl,_,d.words.length,_,rfl,col_gd G hmd (by rw[putQ,Za]) hgl I17,S17 _ _ h16,by rw[ub,Za],hon48 G hmd hB,_,rfl,iteF ⟨S1116.trans S17,_,_,_,rfl⟩⟩
    . rintro σ H12 ⟨S12,w1,w2,w3,rfl⟩
      rw[hT];clear hT T;simp only[zg,zf,↓reduceIte,Yk,Yo];refine⟨p,ko,kh,t,hs,outs,ds,ft,_,rfl,hK11.mono S12,G,S12 _ _ t11,fun k d ot hd hot => ?_,fun H13 tp l as S13 htp hl PA => ?_,fun H13 tp c l i x' cy S13 ex' no htp hc hl Rg => ?_⟩
      . obtain⟨i1,i2,i3⟩:=IN k d ot hd hot
        exact⟨i1,i2,fun u hu=>⟨i3 u hu,inO _ (i3 u hu)⟩⟩
      . exact⟨tp,rfl,_,.of htp,_,z7 (j:=0) rfl,rfl,ite2 (fun _=>q _) fun h=>absurd (decide_eq_true rfl) h⟩
      . refine⟨tp,rfl,_,.of htp,_,z7 (j:=0) rfl,rfl,ite2 (fun h=>absurd h (by decide)) fun _=>⟨tp,rfl,_,.of htp,_,z7 (j:=1) rfl,rfl,?_⟩⟩
        have hne:x'.1≠k:=fun e=>by
          obtain⟨k',ot⟩:=x';cases e;obtain⟨_,hot⟩:=g9 (Zi ex');obtain⟨j,me,_,_,_,hB⟩:=HB ot hot;rw[jq ed,j9 ed]at Rg;exact zjv Rg (hon48 G hmd hB)
        have:decide (V.int (x'.1:Int)=V.int (k:Int))=false:=decide_eq_false fun e=>hne (by injection e;omega)
        rw[this];exact q _
theorem law_ok (B:Bt mg) (C:Ct K mg a) (d_is_whole:ze K mg "is_whole" ox ["thing"]) (d_is_bounded:ze K mg "is_bounded" rc ["thing"]) (d_is_grid_row:ze K mg "is_grid_row" u4 ["thing", "width"]) (d_turn:ze K mg "turn" eg ["grid", "s", "t"]) (d_gain:ze K mg "gain" e6 ["grid", "pays", "t", "s"]) (d_first_gain:ze K mg "first_gain" s9 ["grid", "pays"]) (d_is_name:ze K mg "is_name" ll ["thing"]) (d_are_names:ze K mg "are_names" qw ["thing", "most"]) (d_are_worths:ze K mg "are_worths" sk ["thing", "height", "width"]) (d_is_hand:ze K mg "is_hand" lx ["thing", "width"]) (d_name_of:ze K mg "name_of" lc ["hand"]) (d_names_of:ze K mg "names_of" oy ["hands"]) (d_words_of_hand:ze K mg "words_of_hand" wx ["hand"]) (d_worths_of_hand:ze K mg "worths_of_hand" wg ["hand"]) (d_worths_by:ze K mg "worths_by" qi ["hand", "word"]) (d_count_of_rows:ze K mg "count_of_rows" vt ["hands"]) (d_makes_house:ze K mg "makes_house" u5 ["outcomes", "hands"]) (d_kept_hand:ze K mg "kept_hand" uv ["hand"]) (d_house_of:ze K mg "house_of" rh ["outcomes", "hands"]) (d_outcomes_of:ze K mg "outcomes_of" u8 ["house"]) (d_hands_of:ze K mg "hands_of" om ["house"]) (d_with_each:ze K mg "with_each" qt ["rows", "words"]) (d_rows_over:ze K mg "rows_over" qj ["hands"]) (d_rows_of:ze K mg "rows_of" mq ["house"]) (d_without:ze K mg "without" m4 ["things", "k"]) (d_others_of:ze K mg "others_of" ql ["house", "k"]) (d_row_with:ze K mg "row_with" oh ["others", "k", "word"]) (d_total_of:ze K mg "total_of" o0 ["walk"]) (d_words_of:ze K mg "words_of" oa ["walk"]) (d_walks_of_one_turn:ze K mg "walks_of_one_turn" wo ["grid", "s"]) (d_least_to:ze K mg "least_to" rk ["grid", "walks", "t"]) (d_lengthened:ze K mg "lengthened" ue ["grid", "walks"]) (d_after_a_turn:ze K mg "after_a_turn" ug ["grid", "totals", "t"]) (d_has_honest:ze K mg "has_honest" rp ["grid"]) (d_closed_below_zero:ze K mg "closed_below_zero" wp ["rows"]) (d_ring:ze K mg "ring" d6 ["grid"]) (d_refuse_ring:ze K mg "refuse_ring" u6 ["grid"]) (d_lesser:ze K mg "lesser" jf ["walk", "longer"]) (d_least_roads:ze K mg "least_roads" u9 ["grid", "walks"]) (d_greatest:ze K mg "greatest" on ["grid"]) (d_is_outcome:ze K mg "is_outcome" sm ["house", "thing"]) (d_dealt_places:ze K mg "dealt_places" uh ["house", "table", "k", "others"]) (d_worths_at:ze K mg "worths_at" qm ["worths", "places"]) (d_grid_of:ze K mg "grid_of" mr ["house", "table", "k", "others"]) (d_left_of:ze K mg "left_of" m5 ["offer"]) (d_outcome_of:ze K mg "outcome_of" sr ["offer"]) (d_pick:ze K mg "pick" ef ["house", "k", "menu", "word"]) (d_is_menu:ze K mg "is_menu" mz ["house", "thing"]) (d_are_menus:ze K mg "are_menus" qu ["house", "k", "thing"]) (d_menus_table:ze K mg "menus_table" tf ["house", "k", "menus"]) (d_grids_of:ze K mg "grids_of" oj ["house", "table"]) (d_paper:ze K mg "paper" iu ["k", "others", "grid"]) (d_verdict:ze K mg "verdict" l5 ["house", "table"]) (d_law_cell_at:ze K mg "_law_cell_at" u7 ["script", "k"]) (d_law_pool:ze K mg "_law_pool" z9 ["cell", "many"]) (d_law_drawn:ze K mg "_law_drawn" qr ["script", "k"]) (d_law_worth:ze K mg "_law_worth" qx ["cell"]) (d_law_parts:ze K mg "_law_parts" qh ["script", "tops"]) (d_law_rows:ze K mg "_law_rows" ou ["hands"]) (d_law_price:ze K mg "_law_price" qv ["cell", "worth"]) (d_law_menus:ze K mg "_law_menus" qk ["script", "outcomes", "hands", "k"]) (d_law_grid:ze K mg "_law_grid" oo ["hands", "places", "k", "others"]) (d_law_turn:ze K mg "_law_turn" oz ["grid", "s", "t"]) (d_law_honest:ze K mg "_law_honest" sg ["grid", "prices"]) (base:Heap) {f:Addr} {fd:FuncData} (F:Fun K "law" "law" i5 f fd):FnOk P w K mg base CX0 10 f fd ["script"] (zen K):=by
  have c1:=yr (P:=P) (w:=w) (base:=base) B d_law_cell_at;have c2:=sy (P:=P) (w:=w) (base:=base) B d_law_pool;have c3:=ki (P:=P) (w:=w) (base:=base) d_law_worth;have c4:=um B c1 d_law_drawn;have c5:=l8 B c1 c2 c3 c4 d_law_parts;have n1:=pj (P:=P) (w:=w) (base:=base) B d_is_name;have n2:=vn B n1 d_are_names;have n0:=rm (P:=P) (w:=w) (base:=base) B d_is_whole;have n3:=pz B (o9 B n0 d_is_bounded) d_is_grid_row;have n4:=nh B n3 d_are_worths;have n5:=ju B n1 n2 n4 d_is_hand;have n6:=uc (P:=P) (w:=w) (base:=base) d_name_of;have n7:=yi (P:=P) (w:=w) (base:=base) d_words_of_hand;have n8:=yz (P:=P) (w:=w) (base:=base) d_worths_of_hand;have n9:=vh B n2 n5 (jj n6 d_names_of) (rb B n7 d_count_of_rows) d_makes_house;have n10:=zeh B C n9 (zb0 B n6 n7 n8 d_kept_hand) d_house_of;have m1:=ze5 (P:=P) (w:=w) (base:=base) d_hands_of;have m0:=af (P:=P) (w:=w) (base:=base) d_outcomes_of;have mw:=dg (P:=P) (w:=w) (base:=base) d_words_of_hand;have mv:=gx (P:=P) (w:=w) (base:=base) d_worths_of_hand
  have m2:=kj mw mv d_worths_by;have m3:=zbu B m1 m0 m2 (jx (P:=P) (w:=w) (base:=base) d_left_of) (mm (P:=P) (w:=w) (base:=base) d_outcome_of) d_pick;have mo:=uz B (ka (P:=P) (w:=w) (base:=base) B d_with_each) mw d_rows_over;have r1:=j8 B mo m1 d_rows_of;have r2:=q9 (P:=P) (w:=w) (base:=base) B d_without;have r3:=ur B mo m1 r2 d_others_of;have l1:=sx (P:=P) (w:=w) (base:=base) d_law_rows;have e1:=j2 B (na B m0 d_is_outcome) n0 d_is_menu;have e2:=p0 B C (l7 B r3 e1 d_are_menus) r1 r2 m3 d_menus_table;have t1:=ij B (qe B (ja B d_row_with) mw m1 m0 d_dealt_places) (kg d_worths_at) mv m1 d_grid_of;have c7:=uf (P:=P) (w:=w) (base:=base) d_turn;have c8:=xg (P:=P) (w:=w) (base:=base) d_total_of;have c9:=sj (P:=P) (w:=w) (base:=base) d_words_of;have c14:=ie B (nk B (rq B c7 d_after_a_turn) (ma B (zau c7 d_gain) d_first_gain) d_has_honest) (vq B c7 d_walks_of_one_turn) (vz B (rj B c7 c8 d_least_to) d_lengthened) (vp B c8 c9 d_closed_below_zero) d_ring;have c18:=px B (zbo B (zd2 B c7 c8 d_least_to) d_lengthened) (fi c8 d_lesser) d_least_roads;have c19:=jp B C (pw B C c14 d_refuse_ring) c18 c8 c9 d_greatest;have v1:=jd B m1 t1 r3 d_grids_of;have lt:=wy (P:=P) (w:=w) (base:=base) d_law_turn;exact law_fn B C c1 c5 n10 l1 (kd B c1 c4 l1 (kc (P:=P) (w:=w) (base:=base) B d_law_price) d_law_menus) e2 (jc B d_law_grid) (ml B lt d_law_honest) (jy B v1 c14 (cr B c19 d_paper) d_verdict) F
end
end Mine
namespace Tp
open PySem PySem.W PySem.Calls PyProof.Rows
noncomputable section
abbrev pr:Program:=PySem.Challenge.pw_trueword_k48_whole_menus_are_payable
def en(P:Params)(x:Str)(t:Nat)(v:Value):DictEntry:=⟨PyData.keyHash P x,.str x t,v⟩
abbrev fn(i:Nat)(name qual:Str)(dV kV doc pm:Value)(an:Option Addr)(cdv ct:Value):FuncData:=fnOf name qual (L2.tm (Mine.top i)) (L2.yy (Mine.top i)) (L2.zl (Mine.top i)) dV kV doc pm an cdv ct
abbrev fx(i:Nat)(name qual:Str)(g:Addr)(dV kV doc pm:Value)(an:Option Addr)(cdv ct:Value)(b:Addr):FuncData:=⟨name,qual,L2.tm (Mine.top i),.stmts (L2.yy (Mine.top i)),L2.zl (Mine.top i),g,[],dV,kV,doc,pm,an,cdv,ct,b⟩
def oE:Obj:=⟨.type "tuple", none,.seq #[] 0,#[]⟩
def oF:Obj:=⟨.none,none,.fields #[],#[]⟩
def tl:Nat->List Str->List Value
  | _,[]=>[]
  | t,x::r=>.str x t::tl (t+1) r
def ts(t:Nat)(xs:List Str):Obj:=⟨.type "tuple", none,.seq (tl t xs).toArray 0,#[]⟩
def fo(i:Nat)(n m:Str)(t c:Nat):Obj:=⟨.type "function", none,.func (fn i n n .none .none .none (.str m t) none (.ref c) .none),#[]⟩
def xo(i:Nat)(n:Str):Obj:=⟨.none,none,.func (fx i n n 0 .none .none .none .none none .none .none 0),#[]⟩
def co(n:Str)(t l c f a:Nat)(b:Bool)(e:Nat)(v1 v2 v3 v4:Value)(k:Nat):Obj:=⟨.type "code", none,.fields #[.str n t,.str n (t+1),.str "/claim/cut.py" (t+2),.int l 0,.int c 0,.int 0 0,.int 0 0,.int f 0,.ref a,.bool b,.int 181 0,.ref e,v1,v2,v3,v4,.int k 0,.int l 0,.str "/claim/cut.py" (k+1)],#[]⟩
def ia(t:BT):Nat->List Obj->BT
  | _,[]=>t
  | n,o::r=>ia (t.ins n o) (n+1) r
def lf(P:Params):Life:=(boot_heap P).life
def env:Env:={ scope:=pr.main.scope,locals:=mainNs,globals:=mainNs,cells:=[],code:=(.ref 13),frame:=some 14 }
def cd:Code:=.body (behindTheImports pr) env
def qp:Pos:=⟨0,0,0,0⟩
def o13:Obj:=(co "<module>" 182 1 0 0 11 false 12 .none .none .none .none 185)
def ha(P:Params):Heap:=⟨⟨[boot_o_0 P,boot_o_1 P,boot_o_2 P,boot_o_3 P,boot_o_4 P,boot_o_5 P,boot_o_6 P,boot_o_7 P,boot_o_8 P,boot_o_9 P,boot_o_10 P,oE,oF,o13,⟨(.type "frame"),none,.plain,#[(some (.ref 13)),(some (.ref 3)),(some (.ref 3)),none,(some (.str "__main__" 164)),none,(some (.ref 0))]⟩]⟩,lf P⟩
def t0(P:Params):BT:=(.node (boot_o_0 P) (.node (boot_o_1 P) (.node (boot_o_3 P) (.node (boot_o_7 P) .nil .nil) (.node (oE) .nil .nil)) (.node (boot_o_5 P) (.node (boot_o_9 P) .nil .nil) (.node (o13) .nil .nil))) (.node (boot_o_2 P) (.node (boot_o_4 P) (.node (boot_o_8 P) .nil .nil) (.node (oF) .nil .nil)) (.node (boot_o_6 P) (.node (boot_o_10 P) .nil .nil) (.node (⟨(.type "frame"),none,.plain,#[(some (.ref 13)),(some (.ref 3)),(some (.ref 3)),none,(some (.str "__main__" 164)),none,(some (.ref 0))]⟩) .nil .nil))))
def o3(P:Params):Obj:=⟨(.type "dict"),none,(.dict #[en P "__name__" 165 (.str "trueword.houses" 309),en P "__doc__" 166 .none,en P "__package__" 167 .none,en P "__loader__" 168 (.builtin "__main__.__loader__#opaque"),en P "__spec__" 169 .none,en P "__annotations__" 170 (.ref 6),en P "__builtins__" 171 (.ref 4),en P "__file__" 173 (.str "/claim/cut.py" 172),en P "__cached__" 174 .none,en P "TrueError" 206 (.ref 24),en P "NoPays" 222 (.ref 37),en P "NoHouse" 238 (.ref 49),en P "NoMenu" 254 (.ref 61),en P "MOST_WORDS" 258 (.int (8) 257),en P "is_whole" 265 (.ref 70),en P "is_bounded" 272 (.ref 77),en P "is_grid_row" 278 (.ref 82),en P "turn" 287 (.ref 89),en P "gain" 297 (.ref 96),en P "first_gain" 308 (.ref 103),en P "MOST_LETTERS" 312 (.int (8) 311),en P "MOST_OUTCOMES" 314 (.int (8) 313),en P "MOST_HANDS" 316 (.int (4) 315),en P "MOST_ROWS" 318 (.int (256) 317),en P "is_name" 324 (.ref 108),en P "are_names" 330 (.ref 113),en P "are_worths" 336 (.ref 118),en P "is_hand" 344 (.ref 125),en P "name_of" 351 (.ref 132),en P "names_of" 357 (.ref 137),en P "words_of_hand" 364 (.ref 144),en P "worths_of_hand" 371 (.ref 151),en P "worths_by" 379 (.ref 158),en P "count_of_rows" 388 (.ref 165),en P "makes_house" 394 (.ref 170),en P "kept_hand" 400 (.ref 175),en P "house_of" 406 (.ref 180),en P "outcomes_of" 413 (.ref 187),en P "hands_of" 420 (.ref 194)] 39),#[]⟩
def o17(P:Params):Obj:=⟨(.type "dict"),none,(.dict #[en P "__module__" 196 (.str "trueword.errors" 187),en P "__qualname__" 198 (.str "TrueError" 197),en P "__firstlineno__" 200 (.int (2) 199),en P "__static_attributes__" 201 (.ref 22)] 4),#[]⟩
def o20:Obj:=(co "TrueError" 191 2 0 0 18 false 19 .none .none .none .none 194)
def o23(P:Params):Obj:=⟨(.type "dict"),none,(.dict #[en P "__module__" 196 (.str "trueword.errors" 187),en P "__firstlineno__" 200 (.int (2) 199),en P "__static_attributes__" 201 (.ref 22),en P "__weakref__" 203 (.ref 25),en P "__doc__" 204 .none] 3),#[]⟩
def o24:Obj:=⟨(.type "type"),none,(.cls ⟨"TrueError", [(.type "ValueError")],[(.ref 24),(.type "ValueError"),(.type "Exception"),(.type "BaseException"),(.type "object")],23, "TrueError", true,[],[(.ref 37),(.ref 49),(.ref 61)],false,none,false⟩),#[(some (.ref 15)),none,(some (.str "TrueError" 189)),(some (.str "TrueError" 197)),(some (.builtin "ValueError.__new__")),(some (.bool true))]⟩
def o30(P:Params):Obj:=⟨(.type "dict"),none,(.dict #[en P "__module__" 214 (.str "trueword.errors" 187),en P "__qualname__" 216 (.str "NoPays" 215),en P "__firstlineno__" 218 (.int (4) 217),en P "__static_attributes__" 219 (.ref 35)] 4),#[]⟩
def o33:Obj:=(co "NoPays" 209 4 0 0 31 false 32 .none .none .none .none 212)
def o36(P:Params):Obj:=⟨(.type "dict"),none,(.dict #[en P "__module__" 214 (.str "trueword.errors" 187),en P "__firstlineno__" 218 (.int (4) 217),en P "__static_attributes__" 219 (.ref 35),en P "__doc__" 220 .none] 2),#[]⟩
def o37:Obj:=⟨(.type "type"),none,(.cls ⟨"NoPays", [(.ref 24)],[(.ref 37),(.ref 24),(.type "ValueError"),(.type "Exception"),(.type "BaseException"),(.type "object")],36, "NoPays", true,[],[],false,none,false⟩),#[(some (.ref 28)),none,(some (.str "NoPays" 207)),(some (.str "NoPays" 215)),(some (.builtin "ValueError.__new__")),(some (.bool true))]⟩
def o42(P:Params):Obj:=⟨(.type "dict"),none,(.dict #[en P "__module__" 230 (.str "trueword.errors" 187),en P "__qualname__" 232 (.str "NoHouse" 231),en P "__firstlineno__" 234 (.int (6) 233),en P "__static_attributes__" 235 (.ref 47)] 4),#[]⟩
def o45:Obj:=(co "NoHouse" 225 6 0 0 43 false 44 .none .none .none .none 228)
def o48(P:Params):Obj:=⟨(.type "dict"),none,(.dict #[en P "__module__" 230 (.str "trueword.errors" 187),en P "__firstlineno__" 234 (.int (6) 233),en P "__static_attributes__" 235 (.ref 47),en P "__doc__" 236 .none] 2),#[]⟩
def o49:Obj:=⟨(.type "type"),none,(.cls ⟨"NoHouse", [(.ref 24)],[(.ref 49),(.ref 24),(.type "ValueError"),(.type "Exception"),(.type "BaseException"),(.type "object")],48, "NoHouse", true,[],[],false,none,false⟩),#[(some (.ref 40)),none,(some (.str "NoHouse" 223)),(some (.str "NoHouse" 231)),(some (.builtin "ValueError.__new__")),(some (.bool true))]⟩
def o54(P:Params):Obj:=⟨(.type "dict"),none,(.dict #[en P "__module__" 246 (.str "trueword.errors" 187),en P "__qualname__" 248 (.str "NoMenu" 247),en P "__firstlineno__" 250 (.int (8) 249),en P "__static_attributes__" 251 (.ref 59)] 4),#[]⟩
def o57:Obj:=(co "NoMenu" 241 8 0 0 55 false 56 .none .none .none .none 244)
def o60(P:Params):Obj:=⟨(.type "dict"),none,(.dict #[en P "__module__" 246 (.str "trueword.errors" 187),en P "__firstlineno__" 250 (.int (8) 249),en P "__static_attributes__" 251 (.ref 59),en P "__doc__" 252 .none] 2),#[]⟩
def o61:Obj:=⟨(.type "type"),none,(.cls ⟨"NoMenu", [(.ref 24)],[(.ref 61),(.ref 24),(.type "ValueError"),(.type "Exception"),(.type "BaseException"),(.type "object")],60, "NoMenu", true,[],[],false,none,false⟩),#[(some (.ref 52)),none,(some (.str "NoMenu" 239)),(some (.str "NoMenu" 247)),(some (.builtin "ValueError.__new__")),(some (.bool true))]⟩
def o69:Obj:=(co "is_whole" 259 12 1 3 64 true 65 .none (.ref 66) (.ref 67) (.ref 68) 263)
def o70:Obj:=(fo 7 "is_whole" "trueword.grids" 255 69)
def o76:Obj:=(co "is_bounded" 266 14 1 3 71 true 72 .none (.ref 73) (.ref 74) (.ref 75) 270)
def o77:Obj:=(fo 8 "is_bounded" "trueword.grids" 255 76)
def o81:Obj:=(co "is_grid_row" 273 16 2 3 78 true 79 .none .none .none (.ref 80) 276)
def o82:Obj:=(fo 9 "is_grid_row" "trueword.grids" 255 81)
def o88:Obj:=(co "turn" 279 20 3 3 83 true 84 .none (.ref 85) (.ref 86) (.ref 87) 285)
def o89:Obj:=(fo 10 "turn" "trueword.grids" 255 88)
def o95:Obj:=(co "gain" 288 22 4 3 90 true 91 .none (.ref 92) (.ref 93) (.ref 94) 295)
def o96:Obj:=(fo 11 "gain" "trueword.grids" 255 95)
def o102:Obj:=(co "first_gain" 298 24 2 3 97 true 98 .none (.ref 99) (.ref 100) (.ref 101) 306)
def o103:Obj:=(fo 12 "first_gain" "trueword.grids" 255 102)
def o107:Obj:=(co "is_name" 319 36 1 3 104 true 105 .none .none .none (.ref 106) 322)
def o108:Obj:=(fo 18 "is_name" "trueword.houses" 309 107)
def o112:Obj:=(co "are_names" 325 40 2 3 109 true 110 .none .none .none (.ref 111) 328)
def o113:Obj:=(fo 19 "are_names" "trueword.houses" 309 112)
def o117:Obj:=(co "are_worths" 331 44 3 3 114 true 115 .none .none .none (.ref 116) 334)
def o118:Obj:=(fo 20 "are_worths" "trueword.houses" 309 117)
def o124:Obj:=(co "is_hand" 337 48 2 3 119 true 120 .none (.ref 121) (.ref 122) (.ref 123) 342)
def o125:Obj:=(fo 21 "is_hand" "trueword.houses" 309 124)
def o131:Obj:=(co "name_of" 345 52 1 3 126 true 127 .none (.ref 128) (.ref 129) (.ref 130) 349)
def o132:Obj:=(fo 22 "name_of" "trueword.houses" 309 131)
def o136:Obj:=(co "names_of" 352 54 1 3 133 true 134 .none .none .none (.ref 135) 355)
def o137:Obj:=(fo 23 "names_of" "trueword.houses" 309 136)
def o143:Obj:=(co "words_of_hand" 358 56 1 3 138 true 139 .none (.ref 140) (.ref 141) (.ref 142) 362)
def o144:Obj:=(fo 24 "words_of_hand" "trueword.houses" 309 143)
def o150:Obj:=(co "worths_of_hand" 365 58 1 3 145 true 146 .none (.ref 147) (.ref 148) (.ref 149) 369)
def o151:Obj:=(fo 25 "worths_of_hand" "trueword.houses" 309 150)
def o157:Obj:=(co "worths_by" 372 60 2 3 152 true 153 .none (.ref 154) (.ref 155) (.ref 156) 377)
def o158:Obj:=(fo 26 "worths_by" "trueword.houses" 309 157)
def o164:Obj:=(co "count_of_rows" 380 62 1 3 159 true 160 .none (.ref 161) (.ref 162) (.ref 163) 386)
def o165:Obj:=(fo 27 "count_of_rows" "trueword.houses" 309 164)
def o169:Obj:=(co "makes_house" 389 67 2 3 166 true 167 .none .none .none (.ref 168) 392)
def o170:Obj:=(fo 28 "makes_house" "trueword.houses" 309 169)
def o174:Obj:=(co "kept_hand" 395 73 1 3 171 true 172 .none .none .none (.ref 173) 398)
def o175:Obj:=(fo 29 "kept_hand" "trueword.houses" 309 174)
def o179:Obj:=(co "house_of" 401 76 2 3 176 true 177 .none .none .none (.ref 178) 404)
def o180:Obj:=(fo 30 "house_of" "trueword.houses" 309 179)
def o186:Obj:=(co "outcomes_of" 407 80 1 3 181 true 182 .none (.ref 183) (.ref 184) (.ref 185) 411)
def o187:Obj:=(fo 31 "outcomes_of" "trueword.houses" 309 186)
def o193:Obj:=(co "hands_of" 414 82 1 3 188 true 189 .none (.ref 190) (.ref 191) (.ref 192) 418)
def o194:Obj:=(fo 32 "hands_of" "trueword.houses" 309 193)
def t1(P:Params):BT:=ia (((t0 P).set 3 fun _=>o3 P).set 12 fun _=>⟨.none,none,(.fields #[(.int (2) 0),(.int (0) 0),(.ref 20),(.int (4) 0),(.int (0) 0),(.ref 33),(.int (6) 0),(.int (0) 0),(.ref 45),(.int (8) 0),(.int (0) 0),(.ref 57),(.int (12) 0),(.int (0) 0),(.ref 69),(.int (14) 0),(.int (0) 0),(.ref 76),(.int (16) 0),(.int (0) 0),(.ref 81),(.int (20) 0),(.int (0) 0),(.ref 88),(.int (22) 0),(.int (0) 0),(.ref 95),(.int (24) 0),(.int (0) 0),(.ref 102),(.int (36) 0),(.int (0) 0),(.ref 107),(.int (40) 0),(.int (0) 0),(.ref 112),(.int (44) 0),(.int (0) 0),(.ref 117),(.int (48) 0),(.int (0) 0),(.ref 124),(.int (52) 0),(.int (0) 0),(.ref 131),(.int (54) 0),(.int (0) 0),(.ref 136),(.int (56) 0),(.int (0) 0),(.ref 143),(.int (58) 0),(.int (0) 0),(.ref 150),(.int (60) 0),(.int (0) 0),(.ref 157),(.int (62) 0),(.int (0) 0),(.ref 164),(.int (67) 0),(.int (0) 0),(.ref 169),(.int (73) 0),(.int (0) 0),(.ref 174),(.int (76) 0),(.int (0) 0),(.ref 179),(.int (80) 0),(.int (0) 0),(.ref 186),(.int (82) 0),(.int (0) 0),(.ref 193)]),#[]⟩) 15 [⟨(.type "tuple"),none,(.seq #[(.type "ValueError")] 0),#[]⟩,⟨(.type "builtin_function_or_method"),none,(.fields #[(.builtin "type.__prepare__"),(.type "type")]),#[]⟩,o17 P,oE,oF,o20,⟨(.type "frame"),none,.plain,#[(some (.ref 20)),(some (.ref 3)),(some (.ref 17)),none,(some (.str "trueword.errors" 187)),none,(some (.ref 0))]⟩,oE,o23 P,o24,⟨(.type "getset_descriptor"),none,(.fields #[(.str "__weakref__" 202),(.ref 24),(.builtin "ExceptionGroup.__weakref__"),.none]),#[]⟩,⟨(.type "super"),none,(.fields #[(.ref 24),(.ref 24),(.ref 24)]),#[]⟩,⟨(.type "builtin_function_or_method"),none,(.fields #[(.builtin "object.__init_subclass__"),(.ref 24)]),#[]⟩,⟨(.type "tuple"),none,(.seq #[(.ref 24)] 0),#[]⟩,⟨(.type "builtin_function_or_method"),none,(.fields #[(.builtin "type.__prepare__"),(.type "type")]),#[]⟩,o30 P,oE,oF,o33,⟨(.type "frame"),none,.plain,#[(some (.ref 33)),(some (.ref 3)),(some (.ref 30)),none,(some (.str "trueword.errors" 187)),none,(some (.ref 0))]⟩,oE,o36 P,o37,⟨(.type "super"),none,(.fields #[(.ref 37),(.ref 37),(.ref 37)]),#[]⟩,⟨(.type "builtin_function_or_method"),none,(.fields #[(.builtin "object.__init_subclass__"),(.ref 37)]),#[]⟩,⟨(.type "tuple"),none,(.seq #[(.ref 24)] 0),#[]⟩,⟨(.type "builtin_function_or_method"),none,(.fields #[(.builtin "type.__prepare__"),(.type "type")]),#[]⟩,o42 P,oE,oF,o45,⟨(.type "frame"),none,.plain,#[(some (.ref 45)),(some (.ref 3)),(some (.ref 42)),none,(some (.str "trueword.errors" 187)),none,(some (.ref 0))]⟩,oE,o48 P,o49,⟨(.type "super"),none,(.fields #[(.ref 49),(.ref 49),(.ref 49)]),#[]⟩,⟨(.type "builtin_function_or_method"),none,(.fields #[(.builtin "object.__init_subclass__"),(.ref 49)]),#[]⟩,⟨(.type "tuple"),none,(.seq #[(.ref 24)] 0),#[]⟩,⟨(.type "builtin_function_or_method"),none,(.fields #[(.builtin "type.__prepare__"),(.type "type")]),#[]⟩,o54 P,oE,oF,o57,⟨(.type "frame"),none,.plain,#[(some (.ref 57)),(some (.ref 3)),(some (.ref 54)),none,(some (.str "trueword.errors" 187)),none,(some (.ref 0))]⟩,oE,o60 P,o61,⟨(.type "super"),none,(.fields #[(.ref 61),(.ref 61),(.ref 61)]),#[]⟩,⟨(.type "builtin_function_or_method"),none,(.fields #[(.builtin "object.__init_subclass__"),(.ref 61)]),#[]⟩,oE,oF,(ts 262 ["thing"]),oE,(xo 7 "is_whole"),o69,o70,oE,oF,(ts 269 ["thing"]),oE,(xo 8 "is_bounded"),o76,o77,oE,oF,(xo 9 "is_grid_row"),o81,o82,oE,oF,(ts 282 ["grid", "s", "t"]),oE,(xo 10 "turn"),o88,o89,oE,oF,(ts 291 ["grid", "pays", "t", "s"]),oE,(xo 11 "gain"),o95,o96,oE,oF,(ts 301 ["grid", "pays", "t", "s", "more"]),oE,(xo 12 "first_gain"),o102,o103,oE,oF,(xo 18 "is_name"),o107,o108,oE,oF,(xo 19 "are_names"),o112,o113,oE,oF,(xo 20 "are_worths"),o117,o118,oE,oF,(ts 340 ["thing", "width"]),oE,(xo 21 "is_hand"),o124,o125,oE,oF,(ts 348 ["hand"]),oE,(xo 22 "name_of"),o131,o132,oE,oF,(xo 23 "names_of"),o136,o137,oE,oF,(ts 361 ["hand"]),oE,(xo 24 "words_of_hand"),o143,o144,oE,oF,(ts 368 ["hand"]),oE,(xo 25 "worths_of_hand"),o150,o151,oE,oF,(ts 375 ["hand", "word"]),oE,(xo 26 "worths_by"),o157,o158,oE,oF,(ts 383 ["hands", "count", "hand"]),oE,(xo 27 "count_of_rows"),o164,o165,oE,oF,(xo 28 "makes_house"),o169,o170,oE,oF,(xo 29 "kept_hand"),o174,o175,oE,oF,(xo 30 "house_of"),o179,o180,oE,oF,(ts 410 ["house"]),oE,(xo 31 "outcomes_of"),o186,o187,oE,oF,(ts 417 ["house"]),oE,(xo 32 "hands_of"),o193,o194]
def o3_1(P:Params):Obj:=⟨(.type "dict"),none,(.dict #[en P "__name__" 165 (.str "law_trueword_k48_whole_menus_are_payable" 659),en P "__doc__" 166 .none,en P "__package__" 167 .none,en P "__loader__" 168 (.builtin "__main__.__loader__#opaque"),en P "__spec__" 169 .none,en P "__annotations__" 170 (.ref 6),en P "__builtins__" 171 (.ref 4),en P "__file__" 173 (.str "/claim/cut.py" 172),en P "__cached__" 174 .none,en P "TrueError" 206 (.ref 24),en P "NoPays" 222 (.ref 37),en P "NoHouse" 238 (.ref 49),en P "NoMenu" 254 (.ref 61),en P "MOST_WORDS" 258 (.int (8) 257),en P "is_whole" 265 (.ref 70),en P "is_bounded" 272 (.ref 77),en P "is_grid_row" 278 (.ref 82),en P "turn" 287 (.ref 89),en P "gain" 297 (.ref 96),en P "first_gain" 308 (.ref 103),en P "MOST_LETTERS" 312 (.int (8) 311),en P "MOST_OUTCOMES" 314 (.int (8) 313),en P "MOST_HANDS" 316 (.int (4) 315),en P "MOST_ROWS" 318 (.int (256) 317),en P "is_name" 324 (.ref 108),en P "are_names" 330 (.ref 113),en P "are_worths" 336 (.ref 118),en P "is_hand" 344 (.ref 125),en P "name_of" 351 (.ref 132),en P "names_of" 357 (.ref 137),en P "words_of_hand" 364 (.ref 144),en P "worths_of_hand" 371 (.ref 151),en P "worths_by" 379 (.ref 158),en P "count_of_rows" 388 (.ref 165),en P "makes_house" 394 (.ref 170),en P "kept_hand" 400 (.ref 175),en P "house_of" 406 (.ref 180),en P "outcomes_of" 413 (.ref 187),en P "hands_of" 420 (.ref 194),en P "with_each" 426 (.ref 199),en P "rows_over" 435 (.ref 206),en P "rows_of" 442 (.ref 213),en P "without" 450 (.ref 220),en P "others_of" 458 (.ref 227),en P "row_with" 467 (.ref 234),en P "total_of" 476 (.ref 241),en P "words_of" 483 (.ref 248),en P "walks_of_one_turn" 489 (.ref 253),en P "least_to" 495 (.ref 258),en P "lengthened" 501 (.ref 263),en P "after_a_turn" 507 (.ref 268),en P "has_honest" 513 (.ref 273),en P "closed_below_zero" 522 (.ref 280),en P "ring" 528 (.ref 285),en P "refuse_ring" 537 (.ref 292),en P "lesser" 545 (.ref 299),en P "least_roads" 551 (.ref 304),en P "greatest" 559 (.ref 309),en P "is_outcome" 569 (.ref 316),en P "dealt_places" 575 (.ref 321),en P "worths_at" 581 (.ref 326),en P "grid_of" 587 (.ref 331),en P "left_of" 596 (.ref 338),en P "outcome_of" 603 (.ref 345),en P "pick" 609 (.ref 350),en P "is_menu" 615 (.ref 355),en P "are_menus" 621 (.ref 360),en P "menus_table" 627 (.ref 365),en P "grids_of" 635 (.ref 370),en P "paper" 645 (.ref 377),en P "verdict" 658 (.ref 384),en P "_law_cell_at" 668 (.ref 391),en P "_law_pool" 674 (.ref 396),en P "_law_drawn" 685 (.ref 403),en P "_law_worth" 692 (.ref 410),en P "_law_parts" 698 (.ref 415),en P "_law_rows" 704 (.ref 420),en P "_law_price" 712 (.ref 427),en P "_law_menus" 732 (.ref 434),en P "_law_grid" 738 (.ref 439),en P "_law_turn" 747 (.ref 446),en P "_law_honest" 758 (.ref 453),en P "law" 764 (.ref 458)] 83),#[]⟩
def o198:Obj:=(co "with_each" 421 84 2 3 195 true 196 .none .none .none (.ref 197) 424)
def o199:Obj:=(fo 33 "with_each" "trueword.houses" 309 198)
def o205:Obj:=(co "rows_over" 427 89 1 3 200 true 201 .none (.ref 202) (.ref 203) (.ref 204) 433)
def o206:Obj:=(fo 34 "rows_over" "trueword.houses" 309 205)
def o212:Obj:=(co "rows_of" 436 94 1 3 207 true 208 .none (.ref 209) (.ref 210) (.ref 211) 440)
def o213:Obj:=(fo 35 "rows_of" "trueword.houses" 309 212)
def o219:Obj:=(co "without" 443 96 2 3 214 true 215 .none (.ref 216) (.ref 217) (.ref 218) 448)
def o220:Obj:=(fo 36 "without" "trueword.houses" 309 219)
def o226:Obj:=(co "others_of" 451 98 2 3 221 true 222 .none (.ref 223) (.ref 224) (.ref 225) 456)
def o227:Obj:=(fo 37 "others_of" "trueword.houses" 309 226)
def o233:Obj:=(co "row_with" 459 100 3 3 228 true 229 .none (.ref 230) (.ref 231) (.ref 232) 465)
def o234:Obj:=(fo 38 "row_with" "trueword.houses" 309 233)
def o240:Obj:=(co "total_of" 470 103 1 3 235 true 236 .none (.ref 237) (.ref 238) (.ref 239) 474)
def o241:Obj:=(fo 40 "total_of" "trueword.rings" 468 240)
def o247:Obj:=(co "words_of" 477 105 1 3 242 true 243 .none (.ref 244) (.ref 245) (.ref 246) 481)
def o248:Obj:=(fo 41 "words_of" "trueword.rings" 468 247)
def o252:Obj:=(co "walks_of_one_turn" 484 107 2 3 249 true 250 .none .none .none (.ref 251) 487)
def o253:Obj:=(fo 42 "walks_of_one_turn" "trueword.rings" 468 252)
def o257:Obj:=(co "least_to" 490 109 3 3 254 true 255 .none .none .none (.ref 256) 493)
def o258:Obj:=(fo 43 "least_to" "trueword.rings" 468 257)
def o262:Obj:=(co "lengthened" 496 112 2 3 259 true 260 .none .none .none (.ref 261) 499)
def o263:Obj:=(fo 44 "lengthened" "trueword.rings" 468 262)
def o267:Obj:=(co "after_a_turn" 502 114 3 3 264 true 265 .none .none .none (.ref 266) 505)
def o268:Obj:=(fo 45 "after_a_turn" "trueword.rings" 468 267)
def o272:Obj:=(co "has_honest" 508 116 1 3 269 true 270 .none .none .none (.ref 271) 511)
def o273:Obj:=(fo 46 "has_honest" "trueword.rings" 468 272)
def o279:Obj:=(co "closed_below_zero" 514 121 1 3 274 true 275 .none (.ref 276) (.ref 277) (.ref 278) 520)
def o280:Obj:=(fo 47 "closed_below_zero" "trueword.rings" 468 279)
def o284:Obj:=(co "ring" 523 126 1 3 281 true 282 .none .none .none (.ref 283) 526)
def o285:Obj:=(fo 48 "ring" "trueword.rings" 468 284)
def o291:Obj:=(co "refuse_ring" 531 137 1 3 286 true 287 .none (.ref 288) (.ref 289) (.ref 290) 535)
def o292:Obj:=(fo 50 "refuse_ring" "trueword.roads" 529 291)
def o298:Obj:=(co "lesser" 538 140 2 3 293 true 294 .none (.ref 295) (.ref 296) (.ref 297) 543)
def o299:Obj:=(fo 51 "lesser" "trueword.roads" 529 298)
def o303:Obj:=(co "least_roads" 546 142 2 3 300 true 301 .none .none .none (.ref 302) 549)
def o304:Obj:=(fo 52 "least_roads" "trueword.roads" 529 303)
def o308:Obj:=(co "greatest" 554 147 1 3 305 true 306 .none .none .none (.ref 307) 557)
def o309:Obj:=(fo 54 "greatest" "trueword.pays" 552 308)
def o315:Obj:=(co "is_outcome" 562 152 2 3 310 true 311 .none (.ref 312) (.ref 313) (.ref 314) 567)
def o316:Obj:=(fo 56 "is_outcome" "trueword.tables" 560 315)
def o320:Obj:=(co "dealt_places" 570 154 4 3 317 true 318 .none .none .none (.ref 319) 573)
def o321:Obj:=(fo 57 "dealt_places" "trueword.tables" 560 320)
def o325:Obj:=(co "worths_at" 576 157 2 3 322 true 323 .none .none .none (.ref 324) 579)
def o326:Obj:=(fo 58 "worths_at" "trueword.tables" 560 325)
def o330:Obj:=(co "grid_of" 582 159 4 3 327 true 328 .none .none .none (.ref 329) 585)
def o331:Obj:=(fo 59 "grid_of" "trueword.tables" 560 330)
def o337:Obj:=(co "left_of" 590 163 1 3 332 true 333 .none (.ref 334) (.ref 335) (.ref 336) 594)
def o338:Obj:=(fo 61 "left_of" "trueword.menus" 588 337)
def o344:Obj:=(co "outcome_of" 597 165 1 3 339 true 340 .none (.ref 341) (.ref 342) (.ref 343) 601)
def o345:Obj:=(fo 62 "outcome_of" "trueword.menus" 588 344)
def o349:Obj:=(co "pick" 604 167 4 3 346 true 347 .none .none .none (.ref 348) 607)
def o350:Obj:=(fo 63 "pick" "trueword.menus" 588 349)
def o354:Obj:=(co "is_menu" 610 171 2 3 351 true 352 .none .none .none (.ref 353) 613)
def o355:Obj:=(fo 64 "is_menu" "trueword.menus" 588 354)
def o359:Obj:=(co "are_menus" 616 175 3 3 356 true 357 .none .none .none (.ref 358) 619)
def o360:Obj:=(fo 65 "are_menus" "trueword.menus" 588 359)
def o364:Obj:=(co "menus_table" 622 180 3 3 361 true 362 .none .none .none (.ref 363) 625)
def o365:Obj:=(fo 66 "menus_table" "trueword.menus" 588 364)
def o369:Obj:=(co "grids_of" 630 185 2 3 366 true 367 .none .none .none (.ref 368) 633)
def o370:Obj:=(fo 68 "grids_of" "trueword.verdicts" 628 369)
def o376:Obj:=(co "paper" 636 190 3 3 371 true 372 .none (.ref 373) (.ref 374) (.ref 375) 643)
def o377:Obj:=(fo 69 "paper" "trueword.verdicts" 628 376)
def o383:Obj:=(co "verdict" 646 193 2 3 378 true 379 .none (.ref 380) (.ref 381) (.ref 382) 656)
def o384:Obj:=(fo 70 "verdict" "trueword.verdicts" 628 383)
def o390:Obj:=(co "_law_cell_at" 661 202 2 3 385 true 386 .none (.ref 387) (.ref 388) (.ref 389) 666)
def o391:Obj:=(fo 72 "_law_cell_at" "law_trueword_k48_whole_menus_are_payable" 659 390)
def o395:Obj:=(co "_law_pool" 669 206 2 3 392 true 393 .none .none .none (.ref 394) 672)
def o396:Obj:=(fo 73 "_law_pool" "law_trueword_k48_whole_menus_are_payable" 659 395)
def o402:Obj:=(co "_law_drawn" 675 219 2 3 397 true 398 .none (.ref 399) (.ref 400) (.ref 401) 683)
def o403:Obj:=(fo 74 "_law_drawn" "law_trueword_k48_whole_menus_are_payable" 659 402)
def o409:Obj:=(co "_law_worth" 686 226 1 3 404 true 405 .none (.ref 406) (.ref 407) (.ref 408) 690)
def o410:Obj:=(fo 75 "_law_worth" "law_trueword_k48_whole_menus_are_payable" 659 409)
def o414:Obj:=(co "_law_parts" 693 234 2 3 411 true 412 .none .none .none (.ref 413) 696)
def o415:Obj:=(fo 76 "_law_parts" "law_trueword_k48_whole_menus_are_payable" 659 414)
def o419:Obj:=(co "_law_rows" 699 249 1 3 416 true 417 .none .none .none (.ref 418) 702)
def o420:Obj:=(fo 77 "_law_rows" "law_trueword_k48_whole_menus_are_payable" 659 419)
def o426:Obj:=(co "_law_price" 705 257 2 3 421 true 422 .none (.ref 423) (.ref 424) (.ref 425) 710)
def o427:Obj:=(fo 78 "_law_price" "law_trueword_k48_whole_menus_are_payable" 659 426)
def o433:Obj:=(co "_law_menus" 713 265 4 3 428 true 429 .none (.ref 430) (.ref 431) (.ref 432) 730)
def o434:Obj:=(fo 79 "_law_menus" "law_trueword_k48_whole_menus_are_payable" 659 433)
def o438:Obj:=(co "_law_grid" 733 281 4 3 435 true 436 .none .none .none (.ref 437) 736)
def o439:Obj:=(fo 80 "_law_grid" "law_trueword_k48_whole_menus_are_payable" 659 438)
def o445:Obj:=(co "_law_turn" 739 287 3 3 440 true 441 .none (.ref 442) (.ref 443) (.ref 444) 745)
def o446:Obj:=(fo 81 "_law_turn" "law_trueword_k48_whole_menus_are_payable" 659 445)
def o452:Obj:=(co "_law_honest" 748 289 2 3 447 true 448 .none (.ref 449) (.ref 450) (.ref 451) 756)
def o453:Obj:=(fo 82 "_law_honest" "law_trueword_k48_whole_menus_are_payable" 659 452)
def o457:Obj:=(co "law" 759 300 1 3 454 true 455 .none .none .none (.ref 456) 762)
def o458:Obj:=(fo 83 "law" "law_trueword_k48_whole_menus_are_payable" 659 457)
def t2(P:Params):BT:=ia (((t1 P).set 3 fun _=>o3_1 P).set 12 fun _=>⟨.none,none,(.fields #[(.int (2) 0),(.int (0) 0),(.ref 20),(.int (4) 0),(.int (0) 0),(.ref 33),(.int (6) 0),(.int (0) 0),(.ref 45),(.int (8) 0),(.int (0) 0),(.ref 57),(.int (12) 0),(.int (0) 0),(.ref 69),(.int (14) 0),(.int (0) 0),(.ref 76),(.int (16) 0),(.int (0) 0),(.ref 81),(.int (20) 0),(.int (0) 0),(.ref 88),(.int (22) 0),(.int (0) 0),(.ref 95),(.int (24) 0),(.int (0) 0),(.ref 102),(.int (36) 0),(.int (0) 0),(.ref 107),(.int (40) 0),(.int (0) 0),(.ref 112),(.int (44) 0),(.int (0) 0),(.ref 117),(.int (48) 0),(.int (0) 0),(.ref 124),(.int (52) 0),(.int (0) 0),(.ref 131),(.int (54) 0),(.int (0) 0),(.ref 136),(.int (56) 0),(.int (0) 0),(.ref 143),(.int (58) 0),(.int (0) 0),(.ref 150),(.int (60) 0),(.int (0) 0),(.ref 157),(.int (62) 0),(.int (0) 0),(.ref 164),(.int (67) 0),(.int (0) 0),(.ref 169),(.int (73) 0),(.int (0) 0),(.ref 174),(.int (76) 0),(.int (0) 0),(.ref 179),(.int (80) 0),(.int (0) 0),(.ref 186),(.int (82) 0),(.int (0) 0),(.ref 193),(.int (84) 0),(.int (0) 0),(.ref 198),(.int (89) 0),(.int (0) 0),(.ref 205),(.int (94) 0),(.int (0) 0),(.ref 212),(.int (96) 0),(.int (0) 0),(.ref 219),(.int (98) 0),(.int (0) 0),(.ref 226),(.int (100) 0),(.int (0) 0),(.ref 233),(.int (103) 0),(.int (0) 0),(.ref 240),(.int (105) 0),(.int (0) 0),(.ref 247),(.int (107) 0),(.int (0) 0),(.ref 252),(.int (109) 0),(.int (0) 0),(.ref 257),(.int (112) 0),(.int (0) 0),(.ref 262),(.int (114) 0),(.int (0) 0),(.ref 267),(.int (116) 0),(.int (0) 0),(.ref 272),(.int (121) 0),(.int (0) 0),(.ref 279),(.int (126) 0),(.int (0) 0),(.ref 284),(.int (137) 0),(.int (0) 0),(.ref 291),(.int (140) 0),(.int (0) 0),(.ref 298),(.int (142) 0),(.int (0) 0),(.ref 303),(.int (147) 0),(.int (0) 0),(.ref 308),(.int (152) 0),(.int (0) 0),(.ref 315),(.int (154) 0),(.int (0) 0),(.ref 320),(.int (157) 0),(.int (0) 0),(.ref 325),(.int (159) 0),(.int (0) 0),(.ref 330),(.int (163) 0),(.int (0) 0),(.ref 337),(.int (165) 0),(.int (0) 0),(.ref 344),(.int (167) 0),(.int (0) 0),(.ref 349),(.int (171) 0),(.int (0) 0),(.ref 354),(.int (175) 0),(.int (0) 0),(.ref 359),(.int (180) 0),(.int (0) 0),(.ref 364),(.int (185) 0),(.int (0) 0),(.ref 369),(.int (190) 0),(.int (0) 0),(.ref 376),(.int (193) 0),(.int (0) 0),(.ref 383),(.int (202) 0),(.int (0) 0),(.ref 390),(.int (206) 0),(.int (0) 0),(.ref 395),(.int (219) 0),(.int (0) 0),(.ref 402),(.int (226) 0),(.int (0) 0),(.ref 409),(.int (234) 0),(.int (0) 0),(.ref 414),(.int (249) 0),(.int (0) 0),(.ref 419),(.int (257) 0),(.int (0) 0),(.ref 426),(.int (265) 0),(.int (0) 0),(.ref 433),(.int (281) 0),(.int (0) 0),(.ref 438),(.int (287) 0),(.int (0) 0),(.ref 445),(.int (289) 0),(.int (0) 0),(.ref 452),(.int (300) 0),(.int (0) 0),(.ref 457)]),#[]⟩) 195 [oE,oF,(xo 33 "with_each"),o198,o199,oE,oF,(ts 430 ["hands", "rows", "hand"]),oE,(xo 34 "rows_over"),o205,o206,oE,oF,(ts 439 ["house"]),oE,(xo 35 "rows_of"),o212,o213,oE,oF,(ts 446 ["things", "k"]),oE,(xo 36 "without"),o219,o220,oE,oF,(ts 454 ["house", "k"]),oE,(xo 37 "others_of"),o226,o227,oE,oF,(ts 462 ["others", "k", "word"]),oE,(xo 38 "row_with"),o233,o234,oE,oF,(ts 473 ["walk"]),oE,(xo 40 "total_of"),o240,o241,oE,oF,(ts 480 ["walk"]),oE,(xo 41 "words_of"),o247,o248,oE,oF,(xo 42 "walks_of_one_turn"),o252,o253,oE,oF,(xo 43 "least_to"),o257,o258,oE,oF,(xo 44 "lengthened"),o262,o263,oE,oF,(xo 45 "after_a_turn"),o267,o268,oE,oF,(xo 46 "has_honest"),o272,o273,oE,oF,(ts 517 ["rows", "s", "walks"]),oE,(xo 47 "closed_below_zero"),o279,o280,oE,oF,(xo 48 "ring"),o284,o285,oE,oF,(ts 534 ["grid"]),oE,(xo 50 "refuse_ring"),o291,o292,oE,oF,(ts 541 ["walk", "longer"]),oE,(xo 51 "lesser"),o298,o299,oE,oF,(xo 52 "least_roads"),o303,o304,oE,oF,(xo 54 "greatest"),o308,o309,oE,oF,(ts 565 ["house", "thing"]),oE,(xo 56 "is_outcome"),o315,o316,oE,oF,(xo 57 "dealt_places"),o320,o321,oE,oF,(xo 58 "worths_at"),o325,o326,oE,oF,(xo 59 "grid_of"),o330,o331,oE,oF,(ts 593 ["offer"]),oE,(xo 61 "left_of"),o337,o338,oE,oF,(ts 600 ["offer"]),oE,(xo 62 "outcome_of"),o344,o345,oE,oF,(xo 63 "pick"),o349,o350,oE,oF,(xo 64 "is_menu"),o354,o355,oE,oF,(xo 65 "are_menus"),o359,o360,oE,oF,(xo 66 "menus_table"),o364,o365,oE,oF,(xo 68 "grids_of"),o369,o370,oE,oF,(ts 639 ["k", "others", "grid", "told"]),oE,(xo 69 "paper"),o376,o377,oE,oF,(ts 649 ["house", "table", "papers", "k", "others", "grid", "found"]),oE,(xo 70 "verdict"),o383,o384,oE,oF,(ts 664 ["script", "k"]),oE,(xo 72 "_law_cell_at"),o390,o391,oE,oF,(xo 73 "_law_pool"),o395,o396,oE,oF,(ts 678 ["script", "k", "many", "cell", "number"]),oE,(xo 74 "_law_drawn"),o402,o403,oE,oF,(ts 689 ["cell"]),oE,(xo 75 "_law_worth"),o409,o410,oE,oF,(xo 76 "_law_parts"),o414,o415,oE,oF,(xo 77 "_law_rows"),o419,o420,oE,oF,(ts 708 ["cell", "worth"]),oE,(xo 78 "_law_price"),o426,o427,oE,oF,(ts 716 ["script", "outcomes", "hands", "k", "menus", "j", "rows", "step", "others", "menu", "worths", "i", "place", "cell"]),oE,(xo 79 "_law_menus"),o433,o434,oE,oF,(xo 80 "_law_grid"),o438,o439,oE,oF,(ts 742 ["grid", "s", "t"]),oE,(xo 81 "_law_turn"),o445,o446,oE,oF,(ts 751 ["grid", "prices", "t", "s", "r"]),oE,(xo 82 "_law_honest"),o452,o453,oE,oF,(xo 83 "law"),o457,o458]
def hf(P:Params):Heap:=absHeap (t2 P) 459 (lf P)
def s0(w:World)(os:OsState):SharedT:=⟨t0 w.params,15,lf w.params,Array.mk [],boot_drawn,187,os⟩
def s1(w:World)(os:OsState):SharedT:=⟨t1 w.params,195,lf w.params,Array.mk [],boot_drawn,421,os⟩
def s2(w:World)(os:OsState):SharedT:=⟨t2 w.params,459,lf w.params,Array.mk [],boot_drawn,765,os⟩
def l0:List Stmt:=(pr.main.body.drop 0).take 33
def l1:List Stmt:=(pr.main.body.drop 33).take 51
theorem bs:behindTheImports pr=l0++(l1++([])):=by kernel_rfl
theorem r_pre(w:World)(os:OsState):topGo treeTable pr w 11 (some (.ref 6)) 12 ⟨boot_heap w.params,Array.mk [],boot_drawn,boot_toks,os⟩ (topStub pr)=some (⟨ha w.params,Array.mk [],boot_drawn,187,os⟩,⟨denote treeTable cd,cd,⟨0,0,0,0⟩,[topFrame qp]⟩):=by kernel_rfl
theorem zjs(w:World)(os:OsState):segRun treeTable pr w 11 (some (.ref 6)) 1 1 ⟨ha w.params,Array.mk [],boot_drawn,187,os⟩ (blockOf (behindTheImports pr) env cd ⟨0,0,0,0⟩ [topFrame qp])=some (.next,(s0 w os).abs,cd,⟨0,0,0,0⟩):=by kernel_rfl
theorem r0(w:World)(os:OsState):segRunT treeTable pr w 11 (some (.ref 6)) 1 1496 (s0 w os) (piecesOf l0 env cd ⟨0,0,0,0⟩ [topFrame qp])=some (.next,s1 w os,cd,⟨82,0,83,19⟩):=by
  rw[PySem.W.Fast.te10110043849684766642,PySem.W.Fast.te14364793385576792824];kernel_rfl
theorem r1(w:World)(os:OsState):segRunT treeTable pr w 11 (some (.ref 6)) 1 1318 (s1 w os) (piecesOf l1 env cd ⟨82,0,83,19⟩ [topFrame qp])=some (.next,s2 w os,cd,⟨300,0,315,46⟩):=by
  rw[PySem.W.Fast.te10110043849684766642,PySem.W.Fast.te14364793385576792824];kernel_rfl
theorem r_fin(w:World)(os:OsState):topRun treeTable pr w 11 (some (.ref 6)) 2 (s2 w os).abs ⟨doneF .next,cd,⟨300,0,315,46⟩,[topFrame qp]⟩=some ⟨hf w.params,Array.mk [],boot_drawn,765,os⟩:=by kernel_rfl
theorem r_rest(w:World)(os:OsState):topRun treeTable pr w 11 (some (.ref 6)) (1496+(1318+(2))) (s0 w os).abs (restOf (behindTheImports pr) env cd ⟨0,0,0,0⟩ [topFrame qp])=some ⟨hf w.params,Array.mk [],boot_drawn,765,os⟩:=by
  have k:=piece_app (segRun_of (r0 w os)) (piece_app (segRun_of (r1 w os)) (piece_nil (r_fin w os)));exact(congrArg (fun b=>topRun treeTable pr w 11 (some (.ref 6)) (1496+(1318+(2))) (s0 w os).abs (restOf b env cd ⟨0,0,0,0⟩ [topFrame qp])) bs).trans k
theorem r_all(w:World)(os:OsState):topRun treeTable pr w 11 (some (.ref 6)) (12+(1+(1496+(1318+(2))))) ⟨boot_heap w.params,Array.mk [],boot_drawn,boot_toks,os⟩ (topStub pr)=some ⟨hf w.params,Array.mk [],boot_drawn,765,os⟩:=go_top (r_pre w os) (piece_block (zjs w os) (r_rest w os))
def ks:List Addr:=[3,13,17,20,23,24,30,33,36,37,42,45,48,49,54,57,60,61,69,70,76,77,81,82,88,89,95,96,102,103,107,108,112,113,117,118,124,125,131,132,136,137,143,144,150,151,157,158,164,165,169,170,174,175,179,180,186,187,193,194,198,199,205,206,212,213,219,220,226,227,233,234,240,241,247,248,252,253,257,258,262,263,267,268,272,273,279,280,284,285,291,292,298,299,303,304,308,309,315,316,320,321,325,326,330,331,337,338,344,345,349,350,354,355,359,360,364,365,369,370,376,377,383,384,390,391,395,396,402,403,409,410,414,415,419,420,426,427,433,434,438,439,445,446,452,453,457,458]
def K:Params->Frag:=fun P=>(nat_lit 3,o3_1 P)::(nat_lit 13,o13)::(nat_lit 17,o17 P)::(nat_lit 20,o20)::(nat_lit 23,o23 P)::(nat_lit 24,o24)::(nat_lit 30,o30 P)::(nat_lit 33,o33)::(nat_lit 36,o36 P)::(nat_lit 37,o37)::(nat_lit 42,o42 P)::(nat_lit 45,o45)::(nat_lit 48,o48 P)::(nat_lit 49,o49)::(nat_lit 54,o54 P)::(nat_lit 57,o57)::(nat_lit 60,o60 P)::(nat_lit 61,o61)::(nat_lit 69,o69)::(nat_lit 70,o70)::(nat_lit 76,o76)::(nat_lit 77,o77)::(nat_lit 81,o81)::(nat_lit 82,o82)::(nat_lit 88,o88)::(nat_lit 89,o89)::(nat_lit 95,o95)::(nat_lit 96,o96)::(nat_lit 102,o102)::(nat_lit 103,o103)::(nat_lit 107,o107)::(nat_lit 108,o108)::(nat_lit 112,o112)::(nat_lit 113,o113)::(nat_lit 117,o117)::(nat_lit 118,o118)::(nat_lit 124,o124)::(nat_lit 125,o125)::(nat_lit 131,o131)::(nat_lit 132,o132)::(nat_lit 136,o136)::(nat_lit 137,o137)::(nat_lit 143,o143)::(nat_lit 144,o144)::(nat_lit 150,o150)::(nat_lit 151,o151)::(nat_lit 157,o157)::(nat_lit 158,o158)::(nat_lit 164,o164)::(nat_lit 165,o165)::(nat_lit 169,o169)::(nat_lit 170,o170)::(nat_lit 174,o174)::(nat_lit 175,o175)::(nat_lit 179,o179)::(nat_lit 180,o180)::(nat_lit 186,o186)::(nat_lit 187,o187)::(nat_lit 193,o193)::(nat_lit 194,o194)::(nat_lit 198,o198)::(nat_lit 199,o199)::(nat_lit 205,o205)::(nat_lit 206,o206)::(nat_lit 212,o212)::(nat_lit 213,o213)::(nat_lit 219,o219)::(nat_lit 220,o220)::(nat_lit 226,o226)::(nat_lit 227,o227)::(nat_lit 233,o233)::(nat_lit 234,o234)::(nat_lit 240,o240)::(nat_lit 241,o241)::(nat_lit 247,o247)::(nat_lit 248,o248)::(nat_lit 252,o252)::(nat_lit 253,o253)::(nat_lit 257,o257)::(nat_lit 258,o258)::(nat_lit 262,o262)::(nat_lit 263,o263)::(nat_lit 267,o267)::(nat_lit 268,o268)::(nat_lit 272,o272)::(nat_lit 273,o273)::(nat_lit 279,o279)::(nat_lit 280,o280)::(nat_lit 284,o284)::(nat_lit 285,o285)::(nat_lit 291,o291)::(nat_lit 292,o292)::(nat_lit 298,o298)::(nat_lit 299,o299)::(nat_lit 303,o303)::(nat_lit 304,o304)::(nat_lit 308,o308)::(nat_lit 309,o309)::(nat_lit 315,o315)::(nat_lit 316,o316)::(nat_lit 320,o320)::(nat_lit 321,o321)::(nat_lit 325,o325)::(nat_lit 326,o326)::(nat_lit 330,o330)::(nat_lit 331,o331)::(nat_lit 337,o337)::(nat_lit 338,o338)::(nat_lit 344,o344)::(nat_lit 345,o345)::(nat_lit 349,o349)::(nat_lit 350,o350)::(nat_lit 354,o354)::(nat_lit 355,o355)::(nat_lit 359,o359)::(nat_lit 360,o360)::(nat_lit 364,o364)::(nat_lit 365,o365)::(nat_lit 369,o369)::(nat_lit 370,o370)::(nat_lit 376,o376)::(nat_lit 377,o377)::(nat_lit 383,o383)::(nat_lit 384,o384)::(nat_lit 390,o390)::(nat_lit 391,o391)::(nat_lit 395,o395)::(nat_lit 396,o396)::(nat_lit 402,o402)::(nat_lit 403,o403)::(nat_lit 409,o409)::(nat_lit 410,o410)::(nat_lit 414,o414)::(nat_lit 415,o415)::(nat_lit 419,o419)::(nat_lit 420,o420)::(nat_lit 426,o426)::(nat_lit 427,o427)::(nat_lit 433,o433)::(nat_lit 434,o434)::(nat_lit 438,o438)::(nat_lit 439,o439)::(nat_lit 445,o445)::(nat_lit 446,o446)::(nat_lit 452,o452)::(nat_lit 453,o453)::(nat_lit 457,o457)::(nat_lit 458,o458)::[]
theorem ke(P:Params):ks=(K P).map (·.1):=by kernel_rfl
def lo:List Str:=pr.main.scope.names.map (·.1)
def vw:Program:={ pr with main:={ pr.main with body:=[Mine.i5] } }
def fs(w:World)(os:OsState):Shared:=⟨hf w.params,Array.mk [],boot_drawn,765,os⟩
theorem z_size(w:World):((boot_heap w.params).isNs mainGlobals&&(Array.mk []:Array GenState).size==0,(boot_heap w.params).objs.size,(boot_heap w.params).nsMap mainGlobals "__annotations__")=(true,11,(some (.ref 6))):=by kernel_rfl
theorem z_one(w:World)(os:OsState):(staticsOk (importedModules pr.main.body) (boot_heap w.params) (hf w.params)&&namesBound pr (hf w.params)&&gensDone (fs w os)&&laidKept (boot_heap w.params) (hf w.params))=true:=by kernel_rfl
theorem z_two(w:World)(os:OsState):openSeen vw lo (importedModules pr.main.body) (fun _=>true) true (fs w os)=openGood vw lo:=by
  rw[PySem.W.Fast.te4187177175401517315];kernel_rfl
theorem zj0(w:World)(os:OsState):(kHook K ks ke).obs (fs w os)=(kHook K ks ke).val w:=by kernel_rfl
theorem z_open:opening pr=plainProg pr.main.scope.names:=by kernel_rfl
theorem zi2(s:Shared):fenceModules? pr s=some s:=by kernel_rfl
theorem left:LeftO pr vw lo (fun _=>true) (kHook K ks ke).obs (kHook K ks ke).val 1000000 :=
  LeftO.of_pieces (boot_open z_open rfl zi2) z_size r_all rfl fun w=>funext fun os=>looks_pair (z_one w os) (looks_pair (z_two w os) (zj0 w os))
end
end Tp
open PySem PySem.W PyProof.Rows
set_option maxRecDepth 100000 in
set_option maxHeartbeats 0 in
theorem PySem.Challenge.cw_trueword_k48_whole_menus_are_payable_holds : PySem.Challenge.rw_trueword_k48_whole_menus_are_payable.Holds := by
  refine holds_law (by rw[PySem.W.Fast.te9446332074065402090];kernel_rfl) fun said => ?_
  refine holds_open (q:=Tp.vw) (loose:=Tp.lo) (Xt:=fun _=>true) (XP:=fun _ _=>True) (Yf:=(kHook Tp.K Tp.ks Tp.ke).obs) (Ya:=(kHook Tp.K Tp.ks Tp.ke).val) (YP:=(kHook Tp.K Tp.ks Tp.ke).says) (N:=1000000) Tp.left (kHook Tp.K Tp.ks Tp.ke).of (kHook Tp.K Tp.ks Tp.ke).keeps (fun _ _=>trivial) (fun _ _ _ _ _=>trivial) (by rfl) (by rfl) (by rfl) (fun _ _=>recFacts_nil rfl) (by rfl) said (by decide +kernel) ⟨rfl,rfl,rfl,rfl,rfl,by decide +kernel⟩ ?hw ?hc
  case hw=>w_witness2
  k_fill
  refine L2.ziz (l:=PySem.Challenge.rw_trueword_k48_whole_menus_are_payable) (n:=63) (k:=10) (x := "script") (CX:=L2.CX0) (sp:=Mine.zen) rfl (by decide) rfl ⟨rfl,by decide,by decide⟩ (fun w h Y=>PySem.W.kIn_of Y) ?F ?S ?C
  case F =>
    intro w mg fa h KX G hmg
    have N:mg "abs" = none/\mg "all" = none/\mg "bool" = none/\mg "dict" = none/\mg "enumerate" = none/\mg "int" = none/\mg "isinstance" = none/\mg "len" = none/\mg "list" = none/\mg "max" = none/\mg "min" = none/\mg "range" = none/\mg "set" = none/\mg "str" = none/\mg "tuple" = none/\mg "zip" = none/\True:=by
      refine⟨?_,?_,?_,?_,?_,?_,?_,?_,?_,?_,?_,?_,?_,?_,?_,?_,trivial⟩ <;> (refine' PySem.W.mg_none_of KX G ?a;(case a=>k_is))
    obtain⟨n_abs,n_all,n_bool,n_dict,n_enumerate,n_int,n_isinstance,n_len,n_list,n_max,n_min,n_range,n_set,n_str,n_tuple,n_zip,-⟩:=N;have k0_MOST_WORDS:=PySem.W.mg_of (n := "MOST_WORDS") KX G (by k_is);have k_MOST_WORDS:∃t,mg "MOST_WORDS" = some (Value.int 8 t):=⟨_,k0_MOST_WORDS⟩;have k0_MOST_LETTERS:=PySem.W.mg_of (n := "MOST_LETTERS") KX G (by k_is);have k_MOST_LETTERS:∃t,mg "MOST_LETTERS" = some (Value.int 8 t):=⟨_,k0_MOST_LETTERS⟩;have k0_MOST_OUTCOMES:=PySem.W.mg_of (n := "MOST_OUTCOMES") KX G (by k_is);have k_MOST_OUTCOMES:∃t,mg "MOST_OUTCOMES" = some (Value.int 8 t):=⟨_,k0_MOST_OUTCOMES⟩;have k0_MOST_HANDS:=PySem.W.mg_of (n := "MOST_HANDS") KX G (by k_is);have k_MOST_HANDS:∃t,mg "MOST_HANDS" = some (Value.int 4 t):=⟨_,k0_MOST_HANDS⟩;have k0_MOST_ROWS:=PySem.W.mg_of (n := "MOST_ROWS") KX G (by k_is);have k_MOST_ROWS:∃t,mg "MOST_ROWS" = some (Value.int 256 t):=⟨_,k0_MOST_ROWS⟩;have B:Mine.Bt mg:=⟨n_abs,n_all,n_bool,n_dict,n_enumerate,n_int,n_isinstance,n_len,n_list,n_max,n_min,n_range,n_set,n_str,n_tuple,n_zip,k_MOST_WORDS,k_MOST_LETTERS,k_MOST_OUTCOMES,k_MOST_HANDS,k_MOST_ROWS⟩;have z_NoHouse:=L2.zar (name := "NoHouse") KX G (by k_is) (by k_exc) (by k_is) (by k_is) (by k_is);have z_NoPays:=L2.zar (name := "NoPays") KX G (by k_is) (by k_exc) (by k_is) (by k_is) (by k_is);have z_NoMenu:=L2.zar (name := "NoMenu") KX G (by k_is) (by k_exc) (by k_is) (by k_is) (by k_is);have C:=Mine.Ct.mk (mg:=mg) (a:=⟨_,_,_⟩) (z_NoHouse.1) (z_NoHouse.2) (z_NoPays.1) (z_NoPays.2) (z_NoMenu.1) (z_NoMenu.2)
    have D:L2.ze (L2.KOf KX) mg "is_whole" Mine.ox ["thing"]/\L2.ze (L2.KOf KX) mg "is_bounded" Mine.rc ["thing"]/\L2.ze (L2.KOf KX) mg "is_grid_row" Mine.u4 ["thing", "width"]/\L2.ze (L2.KOf KX) mg "turn" Mine.eg ["grid", "s", "t"]/\L2.ze (L2.KOf KX) mg "gain" Mine.e6 ["grid", "pays", "t", "s"]/\L2.ze (L2.KOf KX) mg "first_gain" Mine.s9 ["grid", "pays"]/\L2.ze (L2.KOf KX) mg "is_name" Mine.ll ["thing"]/\L2.ze (L2.KOf KX) mg "are_names" Mine.qw ["thing", "most"]/\L2.ze (L2.KOf KX) mg "are_worths" Mine.sk ["thing", "height", "width"]/\L2.ze (L2.KOf KX) mg "is_hand" Mine.lx ["thing", "width"]/\L2.ze (L2.KOf KX) mg "name_of" Mine.lc ["hand"]/\L2.ze (L2.KOf KX) mg "names_of" Mine.oy ["hands"]/\L2.ze (L2.KOf KX) mg "words_of_hand" Mine.wx ["hand"]/\L2.ze (L2.KOf KX) mg "worths_of_hand" Mine.wg ["hand"]/\L2.ze (L2.KOf KX) mg "worths_by" Mine.qi ["hand", "word"]/\L2.ze (L2.KOf KX) mg "count_of_rows" Mine.vt ["hands"]/\L2.ze (L2.KOf KX) mg "makes_house" Mine.u5 ["outcomes", "hands"]/\L2.ze (L2.KOf KX) mg "kept_hand" Mine.uv ["hand"]/\L2.ze (L2.KOf KX) mg "house_of" Mine.rh ["outcomes", "hands"]/\L2.ze (L2.KOf KX) mg "outcomes_of" Mine.u8 ["house"]/\L2.ze (L2.KOf KX) mg "hands_of" Mine.om ["house"]/\L2.ze (L2.KOf KX) mg "with_each" Mine.qt ["rows", "words"]/\L2.ze (L2.KOf KX) mg "rows_over" Mine.qj ["hands"]/\L2.ze (L2.KOf KX) mg "rows_of" Mine.mq ["house"]/\L2.ze (L2.KOf KX) mg "without" Mine.m4 ["things", "k"]/\L2.ze (L2.KOf KX) mg "others_of" Mine.ql ["house", "k"]/\L2.ze (L2.KOf KX) mg "row_with" Mine.oh ["others", "k", "word"]/\L2.ze (L2.KOf KX) mg "total_of" Mine.o0 ["walk"]/\L2.ze (L2.KOf KX) mg "words_of" Mine.oa ["walk"]/\L2.ze (L2.KOf KX) mg "walks_of_one_turn" Mine.wo ["grid", "s"]/\L2.ze (L2.KOf KX) mg "least_to" Mine.rk ["grid", "walks", "t"]/\L2.ze (L2.KOf KX) mg "lengthened" Mine.ue ["grid", "walks"]/\L2.ze (L2.KOf KX) mg "after_a_turn" Mine.ug ["grid", "totals", "t"]/\L2.ze (L2.KOf KX) mg "has_honest" Mine.rp ["grid"]/\L2.ze (L2.KOf KX) mg "closed_below_zero" Mine.wp ["rows"]/\L2.ze (L2.KOf KX) mg "ring" Mine.d6 ["grid"]/\L2.ze (L2.KOf KX) mg "refuse_ring" Mine.u6 ["grid"]/\L2.ze (L2.KOf KX) mg "lesser" Mine.jf ["walk", "longer"]/\L2.ze (L2.KOf KX) mg "least_roads" Mine.u9 ["grid", "walks"]/\L2.ze (L2.KOf KX) mg "greatest" Mine.on ["grid"]/\L2.ze (L2.KOf KX) mg "is_outcome" Mine.sm ["house", "thing"]/\L2.ze (L2.KOf KX) mg "dealt_places" Mine.uh ["house", "table", "k", "others"]/\L2.ze (L2.KOf KX) mg "worths_at" Mine.qm ["worths", "places"]/\L2.ze (L2.KOf KX) mg "grid_of" Mine.mr ["house", "table", "k", "others"]/\L2.ze (L2.KOf KX) mg "left_of" Mine.m5 ["offer"]/\L2.ze (L2.KOf KX) mg "outcome_of" Mine.sr ["offer"]/\L2.ze (L2.KOf KX) mg "pick" Mine.ef ["house", "k", "menu", "word"]/\L2.ze (L2.KOf KX) mg "is_menu" Mine.mz ["house", "thing"]/\L2.ze (L2.KOf KX) mg "are_menus" Mine.qu ["house", "k", "thing"]/\L2.ze (L2.KOf KX) mg "menus_table" Mine.tf ["house", "k", "menus"]/\L2.ze (L2.KOf KX) mg "grids_of" Mine.oj ["house", "table"]/\L2.ze (L2.KOf KX) mg "paper" Mine.iu ["k", "others", "grid"]/\L2.ze (L2.KOf KX) mg "verdict" Mine.l5 ["house", "table"]/\L2.ze (L2.KOf KX) mg "_law_cell_at" Mine.u7 ["script", "k"]/\L2.ze (L2.KOf KX) mg "_law_pool" Mine.z9 ["cell", "many"]/\L2.ze (L2.KOf KX) mg "_law_drawn" Mine.qr ["script", "k"]/\L2.ze (L2.KOf KX) mg "_law_worth" Mine.qx ["cell"]/\L2.ze (L2.KOf KX) mg "_law_parts" Mine.qh ["script", "tops"]/\L2.ze (L2.KOf KX) mg "_law_rows" Mine.ou ["hands"]/\L2.ze (L2.KOf KX) mg "_law_price" Mine.qv ["cell", "worth"]/\L2.ze (L2.KOf KX) mg "_law_menus" Mine.qk ["script", "outcomes", "hands", "k"]/\L2.ze (L2.KOf KX) mg "_law_grid" Mine.oo ["hands", "places", "k", "others"]/\L2.ze (L2.KOf KX) mg "_law_turn" Mine.oz ["grid", "s", "t"]/\L2.ze (L2.KOf KX) mg "_law_honest" Mine.sg ["grid", "prices"]/\L2.ze (L2.KOf KX) mg "law" Mine.i5 ["script"]/\True:=by
      refine⟨?_,?_,?_,?_,?_,?_,?_,?_,?_,?_,?_,?_,?_,?_,?_,?_,?_,?_,?_,?_,?_,?_,?_,?_,?_,?_,?_,?_,?_,?_,?_,?_,?_,?_,?_,?_,?_,?_,?_,?_,?_,?_,?_,?_,?_,?_,?_,?_,?_,?_,?_,?_,?_,?_,?_,?_,?_,?_,?_,?_,?_,?_,?_,?_,?_,trivial⟩ <;> (dsimp only[L2.KOf];refine' L2.def_mk KX G ?a ?l ?c ?k ?h;(case a=>k_is);(case l=>k_is);(case c=>k_is);(case k=>k_is);(case h=>first | exact(fun _ _ _ _ _ _ us hl=>match us,hl with | [_],_=>rfl) | exact(fun _ _ _ _ _ _ us hl=>match us,hl with | [_,_],_=>rfl) | exact(fun _ _ _ _ _ _ us hl=>match us,hl with | [_,_,_],_=>rfl) | exact(fun _ _ _ _ _ _ us hl=>match us,hl with | [_,_,_,_],_=>rfl)))
    obtain⟨d_is_whole,d_is_bounded,d_is_grid_row,d_turn,d_gain,d_first_gain,d_is_name,d_are_names,d_are_worths,d_is_hand,d_name_of,d_names_of,d_words_of_hand,d_worths_of_hand,d_worths_by,d_count_of_rows,d_makes_house,d_kept_hand,d_house_of,d_outcomes_of,d_hands_of,d_with_each,d_rows_over,d_rows_of,d_without,d_others_of,d_row_with,d_total_of,d_words_of,d_walks_of_one_turn,d_least_to,d_lengthened,d_after_a_turn,d_has_honest,d_closed_below_zero,d_ring,d_refuse_ring,d_lesser,d_least_roads,d_greatest,d_is_outcome,d_dealt_places,d_worths_at,d_grid_of,d_left_of,d_outcome_of,d_pick,d_is_menu,d_are_menus,d_menus_table,d_grids_of,d_paper,d_verdict,d_law_cell_at,d_law_pool,d_law_drawn,d_law_worth,d_law_parts,d_law_rows,d_law_price,d_law_menus,d_law_grid,d_law_turn,d_law_honest,d_law,-⟩:=D;obtain⟨f,fd,e1,F1,b1⟩:=d_law.ex;have e2:=hmg.symm.trans e1;cases e2;refine⟨fd,fun s u => ?_,fun base kb nb => ?_⟩
    . exact Mine.zhb F1 s u
    . exact Mine.law_ok B C d_is_whole d_is_bounded d_is_grid_row d_turn d_gain d_first_gain d_is_name d_are_names d_are_worths d_is_hand d_name_of d_names_of d_words_of_hand d_worths_of_hand d_worths_by d_count_of_rows d_makes_house d_kept_hand d_house_of d_outcomes_of d_hands_of d_with_each d_rows_over d_rows_of d_without d_others_of d_row_with d_total_of d_words_of d_walks_of_one_turn d_least_to d_lengthened d_after_a_turn d_has_honest d_closed_below_zero d_ring d_refuse_ring d_lesser d_least_roads d_greatest d_is_outcome d_dealt_places d_worths_at d_grid_of d_left_of d_outcome_of d_pick d_is_menu d_are_menus d_menus_table d_grids_of d_paper d_verdict d_law_cell_at d_law_pool d_law_drawn d_law_worth d_law_parts d_law_rows d_law_price d_law_menus d_law_grid d_law_turn d_law_honest base F1
  case S=>exact fun K H a ns hl hO hS=>⟨a,ns,rfl,hS,hl,fun _=>rfl⟩
  case C=>exact fun _ _ _ _ z=>z
#print axioms PySem.Challenge.cw_trueword_k48_whole_menus_are_payable_holds

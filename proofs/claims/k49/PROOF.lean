import PyProof.Rows.All
import Wide.All
import OpenK.AllK
import Wide.FinOn
import Lean
import PyProof.EqAt
import PyProof.EqKinds
import PyProof.TupleCall
import PySem.Challenge.RW_trueword_k49_whole_payable_by_menus
abbrev Fg:=PySem.W.Frag
abbrev Za:=@List.length_map
abbrev Zb:=@List.getElem?_eq_getElem
abbrev Zc:=@List.getElem?_eq_some_iff
abbrev Zd:=@Nat.le_trans
abbrev Ze:=@List.getElem?_map
abbrev Zf:=@List.getElem?_append_right
abbrev Zg:=@List.getElem?_append_left
abbrev Zh:=@Nat.lt_of_lt_of_le
abbrev Zi:=@List.mem_of_getElem?
abbrev Zj:=@List.length_take
abbrev Zk:=@List.getD_eq_getElem?_getD
abbrev Zl:=@List.getElem_mem
abbrev Zm:=@Nat.le_refl
abbrev Zn:=@List.map_append
abbrev Zo:=@List.length_append
abbrev Zp:=@List.mem_map
abbrev Zq:=@List.take_add_one
abbrev Zr:=@List.size_toArray
abbrev Zs:=@Nat.ne_of_lt
abbrev Zt:=@List.take_length
abbrev Zu:=@List.mem_append_right
abbrev Zv:=@List.mem_cons_of_mem
abbrev Zw:=@Int.toNat_natCast
abbrev Zx:=@List.not_mem_nil
abbrev Zy:=@List.getElem_of_mem
abbrev Zz:=@List.idxOf_lt_length_iff
abbrev ZA:=@List.mem_cons_self
abbrev ZB:=@Nat.min_le_right
abbrev ZC:=@List.mem_singleton
abbrev ZD:=@Nat.not_lt
abbrev ZE:=@Nat.zero_le
abbrev ZF:=@List.lookup_cons
abbrev ZG:=@List.take_of_length_le
abbrev ZH:=@List.mem_append
abbrev ZI:=@List.length_replicate
abbrev ZJ:=@Nat.lt_irrefl
abbrev ZK:=@List.mem_cons
abbrev ZL:=@List.map_cons
abbrev ZM:=@List.length_cons
abbrev ZN:=@List.length_reverse
abbrev ZO:=@List.length_eraseIdx_of_lt
abbrev ZP:=@List.mem_range
abbrev ZQ:=@List.mem_append_left
abbrev ZR:=@List.all_eq_true
abbrev ZS:=@Array.length_toList
abbrev ZT:=@List.nil_append
abbrev ZU:=@Int.emod_lt_of_pos
abbrev ZV:=@List.cons_append
abbrev ZW:=@List.getElem?_of_mem
abbrev ZX:=@List.eraseIdx_eq_take_drop_succ
abbrev ZY:=@List.length_range
abbrev ZZ:=@List.nodup_cons
abbrev Yb:=@List.pairwise_iff_getElem
abbrev Yc:=@List.length_drop
abbrev Yd:=@List.mem_of_mem_eraseIdx
abbrev Ye:=@List.append_nil
abbrev Yg:=@Int.emod_nonneg
abbrev Yh:=@Int.toNat_of_nonneg
abbrev Yi:=@List.getElem?_eraseIdx
abbrev Yj:=@List.mem_filterMap
abbrev Yk:=@Nat.lt_of_le_of_lt
abbrev Yl:=@List.getElem?_eq_none
abbrev Ym:=@Nat.ne_of_gt
abbrev Yn:=@List.getElem?_take_of_lt
abbrev Yo:=@List.nodup_append
abbrev Yp:=@List.getElem_idxOf
abbrev Yq:=@List.length_nil
abbrev Yr:=@List.length_eq_zero_iff
abbrev Ys:=@List.mem_filter
abbrev Yt:=@List.find?_cons
abbrev Yu:=@List.range_succ
abbrev Yv:=@Nat.lt_succ_of_lt
abbrev Yw:=@List.pairwise_map
abbrev Yx:=@List.getElem?_reverse
abbrev Yy:=@List.getElem_inj
abbrev Yz:=@Nat.lt_succ_self
abbrev YA:=@Nat.succ_le_succ
abbrev YB:=@List.mem_reverse
abbrev YC:=@Nat.le_succ
abbrev YD:=@Int.le_refl
abbrev YE:=@List.filterMap_cons
abbrev YF:=@List.map_congr_left
abbrev YG:=@Option.map_some
abbrev YH:=@Nat.not_lt_zero
abbrev YI:=@Nat.le_of_lt
abbrev YJ:=@List.nodup_nil
abbrev YK:=@Nat.mul_le_mul
abbrev YL:=@List.getElem?_replicate
abbrev YM:=@List.getElem?_cons_succ
abbrev YN:=@Option.map_eq_some_iff
abbrev YO:=@Array.getElem?_eq_none
abbrev YQ:=@List.any_cons
abbrev YR:=@List.any_eq_true
abbrev YS:=@List.mem_flatten
abbrev YT:=@List.length_singleton
abbrev YU:=@List.dropLast_eq_take
abbrev YV:=@List.pairwise_reverse
abbrev YW:=@List.length_filter_le
abbrev YX:=@List.foldl_cons
abbrev YY:=@Nat.min_eq_left
abbrev YZ:=@List.map_map
abbrev Xa:=@List.replicate_succ'
abbrev Xb:=@List.idxOf_cons
abbrev Xc:=@List.replicate_succ
abbrev Xd:=@List.drop_zero
abbrev Xe:=@List.getElem?_drop
abbrev Xf:=@List.map_nil
abbrev Xg:=@Option.getD_some
abbrev Xh:=@List.of_mem_zip
-- CHANGE: your row's module here,as the last of these rows
set_option Elab.async false
set_option maxHeartbeats 8000000
set_option linter.all false
set_option maxRecDepth 100000
namespace L2
open PySem PySem.Spec PyProof.Rows
abbrev Key:=Sum Int Str
def ix:Key->Value->Bool
  | .inl k,v=>Value.isInt k v
  | .inr x,v=>Value.isStrOf x v
def keyH(w:World):Key->Int
  | .inl k=>hashInt k
  | .inr x=>hashStr w x
theorem wv:∀{k:Key} {v:Value},ix k v=true->(∃i t,k=Sum.inl i/\v=Value.int i t)\/(∃x t,k=Sum.inr x/\v=Value.str x t)
  | .inl i,v,h=>by
    obtain⟨t,e⟩:=Value.isInt_shape (k:=i) (v:=v) h;exact .inl ⟨i,t,rfl,e⟩
  | .inr x,v,h=>by
    obtain⟨t,e⟩:=Value.isStrOf_shape (x:=x) (v:=v) h;exact .inr ⟨x,t,rfl,e⟩
theorem zhy(i:Int)(t:Tok):ix (.inl i) (.int i t)=true:=by simp[ix,Value.isInt]
theorem zje(x:Str)(t:Tok):ix (.inr x) (.str x t)=true:=by simp[ix,Value.isStrOf]
theorem key_ll(a b:Int):decide ((Sum.inl a:Key)=Sum.inl b)=(a==b):=by
  by_cases e:a=b
  . subst e;simp
  . have h:¬(Sum.inl a:Key)=Sum.inl b:=fun q=>e (Sum.inl.inj q)
    rw[decide_eq_false h];exact(beq_eq_false_iff_ne.mpr e).symm
theorem key_rr(a b:Str):decide ((Sum.inr a:Key)=Sum.inr b)=decide (a=b):=by
  by_cases e:a=b
  . subst e;simp
  . have h:¬(Sum.inr a:Key)=Sum.inr b:=fun q=>e (Sum.inr.inj q)
    rw[decide_eq_false h,decide_eq_false e]
theorem key_lr(a:Int)(b:Str):decide ((Sum.inl a:Key)=Sum.inr b)=false:=decide_eq_false (fun q=>nomatch q)
theorem key_rl(a:Str)(b:Int):decide ((Sum.inr a:Key)=Sum.inl b)=false:=decide_eq_false (fun q=>nomatch q)
def yq(prog:Program)(w:World):PySem.KeyKind prog w Key where
  is:=ix
  hash:=keyH w
  inj:=fun v a b ha hb=>by
    rcases wv ha with ⟨i,t,rfl,rfl⟩ | ⟨x,t,rfl,rfl⟩
    . rcases wv hb with ⟨j,u,rfl,e⟩ | ⟨y,u,rfl,e⟩
      . injection e with e1 _;rw[e1]
      . exact nomatch e
    . rcases wv hb with ⟨j,u,rfl,e⟩ | ⟨y,u,rfl,e⟩
      . exact nomatch e
      . injection e with e1 _;rw[e1]
  byValue:=fun k v h=>by
    rcases wv h with ⟨i,t,rfl,rfl⟩ | ⟨x,t,rfl,rfl⟩ <;> rfl
  pyHash:=fun hv h=>by
    rcases wv hv with ⟨i,t,rfl,rfl⟩ | ⟨x,t,rfl,rfl⟩
    . exact wpAny_pyHash_int h
    . exact wpAny_pyHash_str h
  eqBool:=fun hu hv h=>by
    rcases wv hu with ⟨i,t,rfl,rfl⟩ | ⟨x,t,rfl,rfl⟩
    . rcases wv hv with ⟨j,u,rfl,rfl⟩ | ⟨y,u,rfl,rfl⟩
      . rw[key_ll]at h;exact wpAny_eqBool_int h
      . rw[key_lr]at h;exact SeqAt.EqAt.int_str i t y u _ _ _ _ h
    . rcases wv hv with ⟨j,u,rfl,rfl⟩ | ⟨y,u,rfl,rfl⟩
      . rw[key_rl]at h;exact SeqAt.EqAt.str_int x t j u _ _ _ _ h
      . rw[key_rr]at h;exact wpAny_eqBool_str h
  «strs» := fun k x t v h=>by
    rcases wv h with ⟨i,u,rfl,e⟩ | ⟨y,u,rfl,e⟩
    . exact nomatch e
    . injection e with e1 _
      subst e1;cases v <;> rfl
theorem zgb(prog:Program)(w:World)(k:Key)(v:Value):(yq prog w).is k v=ix k v:=rfl
theorem zec(prog:Program)(w:World)(i:Int)(t:Tok):(yq prog w).is (.inl i) (.int i t)=true:=zhy i t
theorem zd7(prog:Program)(w:World)(x:Str)(t:Tok):(yq prog w).is (.inr x) (.str x t)=true:=zje x t
end L2
namespace L2
open PySem PySem.Spec PyProof.Rows
inductive V where
  | non | bl (b:Bool) | int (i:Int) | str (x:Str) | byt (b:Array UInt8) | flt (b:UInt64) | ref (a:Addr) | ty (n:String)
  deriving DecidableEq
def RelV:V->Value->Prop
  | .non,u=>u=Value.none
  | .bl b,u=>u=Value.bool b
  | .int i,u=>∃t,u=Value.int i t
  | .str x,u=>∃t,u=Value.str x t
  | .byt b,u=>∃t,u=Value.bytes b t
  | .flt b,u=>∃t,u=Value.float b t
  | .ref a,u=>u=Value.ref a
  | .ty n,u=>u=Value.type n
abbrev Vals:List V->List Value->Prop:=Paired RelV
theorem Vals.length{xs:List V}{us:List Value}(r:Vals xs us):xs.length=us.length:=Paired.length r
theorem Vals.get:∀{xs:List V} {us:List Value} {i:Nat} {x:V},Vals xs us->xs[i]? = some x->∃u,us[i]? = some u/\RelV x u
  | _,_,_,_,.nil,e=>by simp at e
  | _,_,0,_,.cons r _,e=>by simp at e;subst e;exact⟨_,rfl,r⟩
  | _,_,i+1,x,.cons _ t,e=>by
    obtain⟨u,h1,h2⟩:=Vals.get (i:=i) (x:=x) t (by simpa using e);exact⟨u,by simpa using h1,h2⟩
theorem Vals.append:∀{xs ys:List V} {us ws:List Value},Vals xs us->Vals ys ws->Vals (xs++ys) (us++ws)
  | _,_,_,_,.nil,s=>s
  | _,_,_,_,.cons r t,s=>.cons r (Vals.append t s)
theorem Vals.take:∀{xs:List V} {us:List Value} (n:Nat),Vals xs us->Vals (xs.take n) (us.take n)
  | _,_,0,_=>.nil
  | _,_,_+1,.nil=>.nil
  | _,_,n+1,.cons r t=>.cons r (Vals.take n t)
theorem Vals.drop:∀{xs:List V} {us:List Value} (n:Nat),Vals xs us->Vals (xs.drop n) (us.drop n)
  | _,_,0,r=>r
  | _,_,_+1,.nil=>.nil
  | _,_,n+1,.cons _ t=>Vals.drop n t
def RelO:Option V->Option Value->Prop
  | some v,some u=>RelV v u
  | none,none=>True
  | _,_=>False
def KV{κ:Type}:List (κ×V)->List (κ×Value)->Prop:=Paired fun(p:κ×V) (q:κ×Value)=>p.1=q.1/\RelV p.2 q.2
def kV:Key->V
  | .inl i=>.int i
  | .inr x=>.str x
inductive HO where
    | lst (xs:List V)
    | tup (xs:List V)
    | dK (kvs:List (Key×V)) | dT (kvs:List (List Key×V))
    | set (S:Int->Bool) (n:Nat)
    | ins (C dx:Addr) (fs:List (Str×V))
    | own (x:Addr)
    | xd (fs:List (Str×V))
    | met (f x:Addr)
    | rng (lo hi:Int)
    | frz (o:Obj) (u:HO)
    | tbl (ps:Array Value)
    | ext (φ:Heap->Prop)
abbrev Hp:=Addr->Option HO
def upd(H:Hp)(a:Addr)(o:HO):Hp:=fun b=>if b=a then some o else H b
theorem zd{H:Hp}{a:Addr}{o:HO}:upd H a o a=some o:=by unfold upd;rw[if_pos rfl]
theorem zp{H:Hp}{a b:Addr}{o:HO}(h:b≠a):upd H a o b=H b:=by unfold upd;rw[if_neg h]
theorem ne_of{H:Hp}{a b:Addr}{o u:HO}(h:H a=some o)(h':H b=some u)(d:o≠u):a≠b:=by
  intro e;subst e;rw[h]at h';exact d (Option.some.inj h')
theorem wf{H:Hp}{a b:Addr}{o:HO}(h:H a=some o)(h':H b=none):a≠b:=by
  intro e;subst e;rw[h]at h';cases h'
def IsTupD(h:Heap)(a:Addr)(items:Array Value):Prop:=∃o,h.get? a=some o/\o.cls=.type "tuple" /\ ∃n,o.data=.seq items n/\o.dict=none
theorem IsTupD.tup{h:Heap}{a:Addr}{items:Array Value}(q:IsTupD h a items):IsTup h a items:=by
  obtain⟨o,e,c,n,d,_⟩:=q;exact⟨o,e,c,n,d⟩
theorem IsTupD.new(h:Heap)(items:Array Value):IsTupD (h.push { cls:=.type "tuple", data:=.seq items }) h.objs.size items:=⟨_,Heap.get?_push_size _ rfl,rfl,_,rfl,rfl⟩
section
variable(P:Program)(w:World)
def ObjOk(H:Hp)(h:Heap)(a:Addr):HO->Prop
  | .lst xs=>xs.length<=sizeLine/\∃(its:List Value) (n:Nat),Vals xs its/\h.get? a=some { cls:=.type "list", data:=.seq its.toArray n }
  | .tup xs=>xs.length<=sizeLine/\∃its:List Value,Vals xs its/\IsTupD h a its.toArray
  | .dK kvs=>kvs.length<=sizeLine/\(a==sysModules)=false/\∃vs,KV kvs vs/\h.DictOf (yq P w) a vs
  | .dT kvs=>kvs.length<=sizeLine/\(a==sysModules)=false/\∃xs:List (List Key×Addr×Value),
      Paired (fun(p:List Key×V) (q:List Key×Addr×Value)=>p.1=q.1/\H q.2.1=some (.tup (p.1.map kV))/\RelV p.2 q.2.2) kvs xs /\
      ∃o es ep,h.get? a=some o/\o.ExactDict/\o.data=.dict es ep/\es.toList=xs.map (entryOfKey (tupleKind (yq P w)))/\(xs.map (·.1)).Nodup
  | .set S n=>h.SetOf (intKind P w) a S n
  | .ins C dx fs=>H dx=some (.own a)/\fs.length<=1000/\dx≠a/\h.get? a=some (PySem.W.instObj C dx) /\
      ∃mA,h.Ns1 dx mA/\(∀f,RelO (fs.lookup f) (mA f))/\PySem.Within mA (fs.map (·.1))
  | .own _=>∃o,h.get? a=some o
  | .xd fs=>∃mA,h.Ns1 a mA/\∀f,RelO (fs.lookup f) (mA f)
  | .rng lo hi=>∃t u v,h.get? a=some { cls:=.type "range", data:=.fields #[.int lo t,.int hi u,.int 1 v] }
  | .frz o u=>h.get? a=some o/\ObjOk H h a u
  | .tbl ps=>h.get? a=some { cls:=.none,data:=.fields ps }
  | .met f x=>h.get? a=some (PySem.W.methodObj (.ref f) (.ref x))
  | .ext φ=>φ h/\(∃o,h.get? a=some o)/\∀h1 h2:Heap,φ h1->(∀o,h1.get? a=some o->h2.get? a=some o)->φ h2
def HOk(H:Hp)(h:Heap):Prop:=∀a o,H a=some o->ObjOk P w H h a o
end
section
variable{P:Program}{w:World}{H H':Hp}{h h':Heap}{a:Addr}{o:HO}
theorem ObjOk.lt(x:ObjOk P w H h a o):a<h.objs.size:=by
  cases o with
  | lst xs=>obtain⟨_,_,_,_,e⟩:=x;exact Heap.lt_size e
  | tup xs=>obtain⟨_,_,_,p⟩:=x;exact p.tup.lt
  | dK kvs=>obtain⟨_,_,_,_,o,_,_,e,_⟩:=x;exact Heap.lt_size e
  | dT kvs=>obtain⟨_,_,_,_,o,_,_,e,_⟩:=x;exact Heap.lt_size e
  | set S n=>obtain⟨o,_,_,_,e,_⟩:=x;exact Heap.lt_size e
  | ins C dx fs=>obtain⟨_,_,_,e,_⟩:=x;exact Heap.lt_size e
  | own y=>obtain⟨_,e⟩:=x;exact Heap.lt_size e
  | xd fs=>obtain⟨_,⟨_,_,_,e,_⟩,_⟩:=x;exact Heap.lt_size e
  | rng lo hi=>obtain⟨_,_,_,e⟩:=x;exact Heap.lt_size e
  | frz ob u=>obtain⟨e,_⟩:=x;exact Heap.lt_size e
  | tbl ps=>exact Heap.lt_size (show h.get? a=some _ from x)
  | met f y=>exact Heap.lt_size (show h.get? a=some _ from x)
  | ext φ=>obtain⟨_,⟨_,e⟩,_⟩:=x;exact Heap.lt_size e
theorem Paired.mapP{α β:Type}{F G:α->β->Prop}:∀{l₁:List α} {l₂:List β},Paired F l₁ l₂->(∀a b,F a b->G a b)->Paired G l₁ l₂
  | _,_,.nil,_=>.nil
  | _,_,.cons r t,f=>.cons (f _ _ r) (Paired.mapP t f)
theorem ObjOk.stay(x:ObjOk P w H h a o)(k:∀b u,(b=a\/H b=some (.own a))->h.get? b=some u->h'.get? b=some u)
    (ho:∀b,H b=some (.own a)->H' b=some (.own a)) (ht:∀b xs,H b=some (.tup xs)->H' b=some (.tup xs)):ObjOk P w H' h' a o:=by
  induction o with
  | lst xs=>obtain⟨z,its,n,r,e⟩:=x;exact⟨z,its,n,r,k _ _ (.inl rfl) e⟩
  | tup xs=>obtain⟨z,its,r,ob,e,c⟩:=x;exact⟨z,its,r,ob,k _ _ (.inl rfl) e,c⟩
  | dK kvs=>obtain⟨z,y,vs,r,ob,es,ep,e,c⟩:=x;exact⟨z,y,vs,r,ob,es,ep,k _ _ (.inl rfl) e,c⟩
  | dT kvs =>
    obtain⟨z,y,xs,r,ob,es,ep,e,c⟩:=x;exact⟨z,y,xs,Paired.mapP r fun p q z=>⟨z.1,ht _ _ z.2.1,z.2.2⟩,ob,es,ep,k _ _ (.inl rfl) e,c⟩
  | set S n=>obtain⟨ob,es,ep,t,e,c⟩:=x;exact⟨ob,es,ep,t,k _ _ (.inl rfl) e,c⟩
  | ins C dx fs =>
    obtain⟨d,z,ne,e,mA,⟨od,es,ep,e2,c⟩,r⟩:=x;exact⟨ho _ d,z,ne,k _ _ (.inl rfl) e,mA,⟨od,es,ep,k _ _ (.inr d) e2,c⟩,r⟩
  | own y=>obtain⟨ob,e⟩:=x;exact⟨ob,k _ _ (.inl rfl) e⟩
  | xd fs=>obtain⟨mA,⟨od,es,ep,e,c⟩,r⟩:=x;exact⟨mA,⟨od,es,ep,k _ _ (.inl rfl) e,c⟩,r⟩
  | rng lo hi=>obtain⟨t,u,v,e⟩:=x;exact⟨t,u,v,k _ _ (.inl rfl) e⟩
  | frz ob u ih=>obtain⟨e,q⟩:=x;exact⟨k _ _ (.inl rfl) e,ih q⟩
  | tbl ps =>
    have e:h.get? a=some { cls:=.none,data:=.fields ps }:=x
    show h'.get? a=some { cls:=.none,data:=.fields ps }
    exact k a _ (.inl rfl) e
  | met f y =>
    have e:h.get? a=some (PySem.W.methodObj (.ref f) (.ref y)):=x
    show h'.get? a=some (PySem.W.methodObj (.ref f) (.ref y))
    exact k a _ (.inl rfl) e
  | ext φ=>obtain⟨p,⟨o,e⟩,st⟩:=x;exact⟨st _ _ p fun o q=>k _ _ (.inl rfl) q,⟨o,k _ _ (.inl rfl) e⟩,st⟩
theorem HOk.lt(x:HOk P w H h)(e:H a=some o):a<h.objs.size:=(x a o e).lt
theorem HOk.fresh(x:HOk P w H h)(e:h.objs.size<=a):H a=none:=by
  cases q:H a with
  | none=>rfl
  | some u=>exact absurd (Zh (x.lt q) e) (ZJ _)
theorem HOk.kept(x:HOk P w H h)(k:∀b u,h.get? b=some u->h'.get? b=some u):HOk P w H h':=fun a o e =>
  (x a o e).stay (fun b u _ q=>k b u q) (fun _ q=>q) fun _ _ q=>q
theorem HOk.laid(x:HOk P w H h)(k:∀b u,h.get? b=some u->h'.get? b=some u)(hp:h.objs.size<=a)(new:ObjOk P w (upd H a o) h' a o):HOk P w (upd H a o) h':=fun b u e=>by
  have hn:=x.fresh hp
  by_cases hb:b=a
  . subst hb;rw[zd]at e;cases e;exact new
  . rw[zp hb]at e
    exact(x b u e).stay (fun c v _ q=>k c v q) (fun c q=>by rw[zp (wf q hn)];exact q) fun c xs q=>by rw[zp (wf q hn)];exact q
end
def Rd(H:Hp)(a:Addr)(u:HO):Prop:=H a=some u\/∃o,H a=some (.frz o u)
theorem Rd.of{H:Hp}{a:Addr}{u:HO}(h:H a=some u):Rd H a u:=.inl h
theorem Rd.ok{P:Program}{w:World}{H:Hp}{h:Heap}{a:Addr}{u:HO}(r:Rd H a u)(x:HOk P w H h):ObjOk P w H h a u:=by
  rcases r with r | ⟨o,r⟩
  . exact x a u r
  . obtain⟨_,q⟩:=x a _ r
    exact q
def Mut:Option HO->Prop
  | some (.lst _)=>True
  | some (.dK _)=>True
  | some (.dT _)=>True
  | some (.set _ _)=>True
  | some (.ins _ _ _)=>True
  | some (.ext _)=>True
  | _=>False
section
variable{P:Program}{w:World}{H:Hp}{h h':Heap}{x e:Addr}{o':HO}
theorem HOk.write(ok:HOk P w H h)(mu:Mut (H x))(he:e=x\/H e=some (.own x))(k:∀b u,b≠e->h.get? b=some u->h'.get? b=some u)(heo:∃u,h'.get? e=some u)
    (new:ObjOk P w (upd H x o') h' x o'):HOk P w (upd H x o') h':=fun b u q=>by
  have nown:∀c y,H c=some (.own y)->c≠x:=fun c y r z=>by subst z;rw[r]at mu;exact mu
  have ntup:∀c xs,H c=some (.tup xs)->c≠x:=fun c xs r z=>by subst z;rw[r]at mu;exact mu
  by_cases hb:b=x
  . subst hb;rw[zd]at q;cases q;exact new
  . rw[zp hb]at q
    by_cases hbe:b=e
    . have q':H b=some (.own x):=by
        rcases he with z | z
        . exact absurd (hbe.trans z) hb
        . rw[hbe];exact z
      rw[q]at q';cases q';obtain⟨v,hv⟩:=heo;exact⟨v,by rw[hbe];exact hv⟩
    . refine(ok b u q).stay (fun c v hc r=>k c v ?_ r) (fun c r=>by rw[zp (nown c b r)];exact r) fun c xs r=>by rw[zp (ntup c xs r)];exact r
      rcases hc with rfl | hc
      . exact hbe
      . rintro rfl
        rcases he with z | z
        . exact nown c b hc z
        . rw[hc]at z;cases z;exact hb rfl
end
structure Un(fs ex:List Addr)(H H':Hp)(h h':Heap):Prop where
  keep:∀b o,h.get? b=some o->H b=none->b∉fs->b∉ex->h'.get? b=some o
  slot:∀b o,h.get? b=some o->H b=none->b∈fs->b∉ex->∃sl,h'.get? b=some { o with slots:=sl }
  free:∀b o,h.get? b=some o->H b=none->b∉ex->H' b=none
  there:∀b o,h.get? b=some o->b∉ex->∃o',h'.get? b=some o'
  tups:∀b xs,H b=some (.tup xs)->H' b=some (.tup xs)
  frzs:∀b o u,H b=some (.frz o u)->H' b=some (.frz o u)
  tbls:∀b ps,H b=some (.tbl ps)->∃more,H' b=some (.tbl (ps++more))
section
variable{fs fs' ex ex':List Addr}{H H1 H2:Hp}{h h1 h2 h':Heap}{a x e:Addr}{o:HO}
theorem Un.any(u:Un fs ex H H1 h h1){b:Addr}{ob:Obj}(q:h.get? b=some ob)(n:H b=none)(hx:b∉ex):∃sl,h1.get? b=some { ob with slots:=sl }:=by
  by_cases hb:b∈fs
  . exact u.slot b ob q n hb hx
  . exact⟨ob.slots,u.keep b ob q n hb hx⟩
theorem Un.trans(a:Un fs ex H H1 h h1)(b:Un fs ex H1 H2 h1 h2):Un fs ex H H2 h h2 where
  keep:=fun c ob q n hc hx=>b.keep c ob (a.keep c ob q n hc hx) (a.free c ob q n hx) hc hx
  slot:=fun c ob q n hc hx=>by
    obtain⟨sl,e1⟩:=a.slot c ob q n hc hx;obtain⟨sl',e2⟩:=b.slot c _ e1 (a.free c ob q n hx) hc hx;exact⟨sl',e2⟩
  free:=fun c ob q n hx=>by
    obtain⟨o',e1⟩:=a.there c ob q hx;exact b.free c o' e1 (a.free c ob q n hx) hx
  there:=fun c ob q hx=>by
    obtain⟨o',e1⟩:=a.there c ob q hx;exact b.there c o' e1 hx
  tups:=fun c xs q=>b.tups c xs (a.tups c xs q)
  frzs:=fun c ob xs q=>b.frzs c ob xs (a.frzs c ob xs q)
  tbls:=fun c ps q=>by
    obtain⟨m1,e1⟩:=a.tbls c ps q;obtain⟨m2,e2⟩:=b.tbls c _ e1;exact⟨m1++m2,by rw[e2,Array.append_assoc]⟩
theorem Un.kept(k:∀b u,h.get? b=some u->h'.get? b=some u):Un fs ex H H h h' :=
  ⟨fun b ob q _ _ _=>k b ob q,fun b ob q _ _ _=>⟨ob.slots,k b ob q⟩,fun _ _ _ n _=>n,fun b ob q _=>⟨ob,k b ob q⟩,fun _ _ q=>q,fun _ _ _ q=>q,fun _ ps q=>⟨#[],by rw[q];simp⟩⟩
theorem Un.refl:Un fs ex H H h h:=Un.kept fun _ _ q=>q
theorem Un.laid(k:∀b u,h.get? b=some u->h'.get? b=some u)(hp:h.objs.size<=a)(hn:H a=none):Un fs ex H (upd H a o) h h' where
  keep:=fun b u q _ _ _=>k b u q
  slot:=fun b u q _ _ _=>⟨u.slots,k b u q⟩
  free:=fun b u q n _=>by rw[zp (Zs (Zh (Heap.lt_size q) hp))];exact n
  there:=fun b u q _=>⟨u,k b u q⟩
  tups:=fun b xs q=>by rw[zp (wf q hn)];exact q
  frzs:=fun b u xs q=>by rw[zp (wf q hn)];exact q
  tbls:=fun b ps q=>⟨#[],by rw[zp (wf q hn),q];simp⟩
theorem Un.write(mu:Mut (H x))(he:e=x\/H e=some (.own x))(k:∀b u,b≠e->h.get? b=some u->h'.get? b=some u)(heo:∃u,h'.get? e=some u):Un fs ex H (upd H x o) h h':=by
  have hx:∀b,H b=none->b≠x:=fun b n z=>by subst z;rw[n]at mu;exact mu
  have hb:∀b,H b=none->b≠e:=fun b n z=>by
    subst z
    rcases he with r | r
    . exact hx b n r
    . rw[n]at r;cases r
  have hm:∀b u,H b=some u->¬Mut (some u)->b≠x:=fun b u q nm z=>by subst z;rw[q]at mu;exact nm mu
  refine⟨fun b u q n _ _=>k b u (hb b n) q,fun b u q n _ _=>⟨u.slots,k b u (hb b n) q⟩,fun b u q n _=>by rw[zp (hx b n)];exact n,fun b u q _ => ?_,
    fun b xs q=>by rw[zp (hm b _ q fun z=>z)];exact q,fun b u xs q=>by rw[zp (hm b _ q fun z=>z)];exact q,fun b ps q=>⟨#[],by rw[zp (hm b _ q fun z=>z),q];simp⟩⟩
  by_cases hbe:b=e
  . subst hbe;exact heo
  . exact⟨u,k b u hbe q⟩
theorem Un.mono(u:Un fs ex H H1 h h1)(hs:∀b∈fs,b∈fs')(hx:∀b∈ex,b∈ex'):Un fs' ex' H H1 h h1 :=
  ⟨fun b ob q n hb he=>u.keep b ob q n (fun z=>hb (hs b z)) fun z=>he (hx b z),fun _ _ q n _ he=>u.any q n fun z=>he (hx _ z),fun b ob q n he=>u.free b ob q n fun z=>he (hx b z),fun b ob q he=>u.there b ob q fun z=>he (hx b z),u.tups,u.frzs,u.tbls⟩
end
def trk(h:Heap)(H:Hp):List Addr:=(List.range h.objs.size).filter fun a=>(H a).isSome
def hidT(h:Heap)(H:Hp):Heap:=PySem.W.hideAll h (trk h H)
theorem zhw(h:Heap)(H:Hp):(hidT h H).objs.size=h.objs.size:=PySem.W.hideAll_size _ _
theorem zkz{h:Heap}{H:Hp}{b:Addr}{o:Obj}(e:h.get? b=some o)(n:H b=none):(hidT h H).get? b=some o :=
  PySem.W.hideAll_get _ e fun hm=>by
    have q:(H b).isSome=true:=(Ys.mp hm).2;rw[n]at q;simp at q
theorem zk9{h:Heap}{H:Hp}{b:Addr}{o:Obj}(e:(hidT h H).get? b=some o):h.get? b=some o/\H b=none:=by
  have e':h.get? b=some o:=PySem.W.of_hideAll (trk h H) e;refine⟨e',?_⟩
  cases q:H b with
  | none=>rfl
  | some x =>
    have hm:b∈trk h H:=Ys.mpr ⟨ZP.mpr (Heap.lt_size e'),by simp[q]⟩;have z:(hidT h H).get? b=none:=PySem.W.hideAll_none (trk h H) hm;rw[z]at e;cases e
def zl4(g h:Heap)(L:Addr):List (Addr×Obj):=(List.range h.objs.size).filterMap fun a=>if a=L\/(g.get? a).isSome=true then none else(h.get? a).map fun o=>(a,o)
def rest(g h:Heap)(L d:Addr):List (Addr×Obj):=(zl4 g h L).filter fun p=>decide (p.1≠d)
end L2
namespace L2
open PySem PySem.Spec PyProof.Rows
structure Mod(K:Fg)(mg:Str->Option Value)(base:Heap):Prop where
  kin:K.In base
  glob:base.Ns mainGlobals mg
  blt:∃mb,base.Ns builtinsNs mb/\∀x:Str,x ≠ "__name__" -> mb x=bootBuiltins x
  nolimit:base.NoLimit
structure Cx where
  prog:Program
  w:World
  K:Fg
  mg:Str->Option Value
  base:Heap
  A:Around
  N:List Str
  s₀:Shared
  H₀:Hp
  env:Env
  outer:List Env
  stack:List Env
  ex:List Addr
  fn:Str->Bool
  calm:Bool
  pn:List (Addr×Obj)
  xe:Value->Shared->Prop
def frs(l:List Env):List Addr:=l.filterMap (·.frame)
abbrev Cx.fs(X:Cx):List Addr:=frs X.outer
def Vis(sc:Scope)(x:Str):Prop:=sc.names.lookup x=some .local\/sc.names.lookup x=some .cell\/sc.names.lookup x=some .free
def Loc(sc:Scope)(x:Str):Prop:=sc.names.lookup x=some .local\/sc.names.lookup x=some .cell
def Look(env:Env)(h:Heap)(m:Str->Option Value)(x:Str)(u:Value):Prop :=
  (env.kindOf x=some .local/\m x=some u)\/((env.kindOf x=some .cell\/env.kindOf x=some .free)/\∃c,env.cells.lookup x=some c/\h.IsCell c (some u))
structure Cx.Ok(X:Cx):Prop where
  mod:Mod X.K X.mg X.base
  kind:X.env.scope.kind=.function
  glob:X.env.globals=mainGlobals
  blt:X.env.builtins=builtinsNs
  above:X.s₀.heap.objs.size<=X.env.locals
  inj:∀x y c,X.env.cells.lookup x=some c->X.env.cells.lookup y=some c->x=y
  has:∀x,(X.env.kindOf x=some .cell\/X.env.kindOf x=some .free)->∃c,X.env.cells.lookup x=some c
  cab:∀x c,X.fn x=true->X.env.cells.lookup x=some c->X.s₀.heap.objs.size<=c
  hd:X.calm=true->X.A.handled=none
  frames:X.A.frames=some X.stack
  stk:X.stack=X.outer\/(X.stack=X.env::X.outer/\X.env.frame=some X.env.locals)
  exf:∀b∈X.ex,b≠X.env.locals/\∀x c,X.env.cells.lookup x=some c->c≠b
  bs:∀b o,X.base.get? b=some o->X.s₀.heap.get? b=some o/\X.H₀ b=none
  bsz:X.base.objs.size<=X.s₀.heap.objs.size
  noex:∀b o,X.base.get? b=some o->b∉X.ex
  exfs:∀b∈X.ex,b∉X.fs
  funs:X.s₀.heap.FunFrames X.base X.outer
  frf:∀b∈X.fs,X.H₀ b=none
structure Inv(X:Cx)(pins:List (Addr×Obj))(σ:List (Option V))(H:Hp)(s:Shared):Prop where
  ok:X.Ok
  os:s.os=X.s₀.os
  bare:AllBare s.gens
  base:Un X.fs X.ex X.H₀ H X.s₀.heap s.heap
  loc:∃m,s.heap.Ns X.env.locals m/\∀(i:Nat) (x:Str) (v:V),X.N[i]? = some x->σ[i]? = some (some v)->Vis X.env.scope x->∃u,RelV v u/\Look X.env s.heap m x u
  cell:∀x c,X.env.cells.lookup x=some c->∃v,s.heap.IsCell c v
  free:H X.env.locals=none
  freeC:∀x c,X.env.cells.lookup x=some c->H c=none
  pin:∀p∈X.pn++pins,s.heap.get? p.1=some p.2/\H p.1=none/\p.1≠X.env.locals/\p.1∉X.fs/\∀v,p.2.data≠.cell v
  hok:HOk X.prog X.w H s.heap
  len:σ.length=X.N.length
section
variable{X:Cx}{pins:List (Addr×Obj)}{σ:List (Option V)}{H H':Hp}{s:Shared}{h':Heap}
theorem Cx.Ok.nofr(ok:X.Ok){b:Addr}{o:Obj}(e:X.base.get? b=some o):b∉X.fs:=fun hb=>by
  have:=(ok.funs.mem hb).1;rw[e]at this;cases this
theorem Inv.bs(I:Inv X pins σ H s):∀b o,X.base.get? b=some o->s.heap.get? b=some o/\H b=none:=fun b o e =>
  ⟨I.base.keep b o (I.ok.bs b o e).1 (I.ok.bs b o e).2 (I.ok.nofr e) (I.ok.noex b o e),I.base.free b o (I.ok.bs b o e).1 (I.ok.bs b o e).2 (I.ok.noex b o e)⟩
theorem Inv.bk(I:Inv X pins σ H s):∀b o,X.base.get? b=some o->s.heap.get? b=some o:=fun b o e=>(I.bs b o e).1
theorem Inv.mod(I:Inv X pins σ H s):Mod X.K X.mg X.base:=I.ok.mod
theorem Inv.kIn(I:Inv X pins σ H s):X.K.In s.heap:=I.ok.mod.kin.keeps I.bk
theorem Inv.lt(I:Inv X pins σ H s):X.env.locals<s.heap.objs.size:=let ⟨_,hn,_⟩:=I.loc;hn.lt
theorem Inv.sz(I:Inv X pins σ H s):X.s₀.heap.objs.size<=s.heap.objs.size:=Zd I.ok.above (YI I.lt)
theorem Inv.nofs(I:Inv X pins σ H s){a:Addr}(h:s.heap.objs.size<=a):a∉X.fs:=fun hb=>by
  obtain⟨_,o,ho,_⟩:=I.ok.funs.mem hb;exact absurd (Zh (Heap.lt_size ho) (Zd I.sz h)) (ZJ _)
theorem Inv.cne(I:Inv X pins σ H s):∀x c,X.env.cells.lookup x=some c->c≠X.env.locals:=fun x c e z=>by
  obtain⟨v,o,ho,hd⟩:=I.cell x c e;obtain⟨m,⟨o',es,ep,ho',hd',_⟩,_⟩:=I.loc;rw[z,ho']at ho;cases ho;rw[hd']at hd;cases hd
theorem Inv.funs(I:Inv X pins σ H s):s.heap.FunFrames X.base X.outer:=by
  have all:∀(l:List Env),(∀b∈frs l,b∈X.fs)->X.s₀.heap.FunFrames X.base l->s.heap.FunFrames X.base l:=by
    intro l
    induction l with
    | nil=>intro _ _;trivial
    | cons env r ih =>
      intro hs hl;obtain⟨hk,⟨L,o,hf,hn,ho,hd⟩,hr⟩:=hl;have hL:L∈X.fs:=hs L (by unfold frs;rw[YE,hf];exact ZA);obtain⟨sl,e⟩:=I.base.slot L o ho (I.ok.frf L hL) hL fun z=>I.ok.exfs L z hL
      exact⟨hk,⟨L,_,hf,hn,e,hd⟩,ih (fun b hb=>hs b (by unfold frs;rw[YE,hf];exact Zv _ hb)) hr⟩
  exact all X.outer (fun _ hb=>hb) I.ok.funs
theorem Inv.stack(I:Inv X pins σ H s):s.heap.FunFrames X.base X.stack:=by
  rcases I.ok.stk with e | ⟨e,hf⟩
  . rw[e];exact I.funs
  . rw[e]
    obtain⟨m,hn,_⟩:=I.loc;refine .cons (by rw[I.ok.kind];decide) hf hn ?_ I.funs;exact Heap.get?_none_of_le (Zd I.ok.bsz I.ok.above)
theorem Inv.stkSub(I:Inv X pins σ H s):∀b∈frs X.stack,b∈X.env.locals::X.fs:=fun b hb=>by
  rcases I.ok.stk with e | ⟨e,hf⟩
  . rw[e]at hb;exact Zv _ hb
  . rw[e]at hb
    unfold frs at hb;rw[YE,hf]at hb;exact hb
theorem Inv.stkFree(I:Inv X pins σ H s):∀b∈frs X.stack,H b=none:=fun b hb=>by
  rcases ZK.mp (I.stkSub b hb) with e | hb
  . rw[e];exact I.free
  . obtain⟨_,o,ho,_⟩:=I.ok.funs.mem hb
    exact I.base.free b o ho (I.ok.frf b hb) fun z=>I.ok.exfs b z hb
theorem Inv.step{g':Array GenState}{t':Nat}{d':Drawn}{ch:List Addr}(I:Inv X pins σ H s)
    (hch:∀b∈ch,(b∈X.ex\/X.s₀.heap.objs.size<=b)/\b≠X.env.locals/\(∀x c,X.env.cells.lookup x=some c->c≠b)/\∀p∈X.pn++pins,p.1≠b)
    (keep:∀b o,b≠X.env.locals->b∉X.fs->b∉ch->s.heap.get? b=some o->H b=none->h'.get? b=some o)
    (slot:∀b o,b≠X.env.locals->b∈X.fs->b∉ch->s.heap.get? b=some o->H b=none->∃sl,h'.get? b=some { o with slots:=sl }) (free:∀b o,b∉ch->s.heap.get? b=some o->H b=none->H' b=none)
    (there:∀b o,b∉ch->s.heap.get? b=some o->∃o',h'.get? b=some o')
    (tups:∀b xs,H b=some (.tup xs)->H' b=some (.tup xs)) (frzs:∀b o u,H b=some (.frz o u)->H' b=some (.frz o u)) (tbls:∀b ps,H b=some (.tbl ps)->∃more,H' b=some (.tbl (ps++more)))
    (ns:∀m,s.heap.Ns X.env.locals m->h'.Ns X.env.locals m) (hok:HOk X.prog X.w H' h') (hg:AllBare g') :
    Inv X pins σ H' { s with heap:=h',gens:=g',drawn:=d',toks:=t' }:=by
  have neL:∀b o,X.s₀.heap.get? b=some o->b≠X.env.locals:=fun b o e=>Zs (Zh (Heap.lt_size e) I.ok.above)
  have neC:∀b o,X.s₀.heap.get? b=some o->b∉X.ex->b∉ch:=fun b o e hx hb=>by
    rcases (hch b hb).1 with z | z
    . exact hx z
    . exact absurd (Zh (Heap.lt_size e) z) (ZJ _)
  have cellK:∀x c,X.env.cells.lookup x=some c->∀v,s.heap.IsCell c v->h'.IsCell c v:=fun x c e v ⟨o,ho,hd⟩=>by
    have nch:c∉ch:=fun z=>(hch c z).2.2.1 x c e rfl
    by_cases hc:c∈X.fs
    . obtain⟨sl,q⟩:=slot c o (I.cne x c e) hc nch ho (I.freeC x c e)
      exact⟨_,q,hd⟩
    . exact⟨o,keep c o (I.cne x c e) hc nch ho (I.freeC x c e),hd⟩
  refine⟨I.ok,I.os,hg,⟨fun b o e n hb hx => ?_,fun b o e n hb hx => ?_,fun b o e n hx => ?_,fun b o e hx => ?_,fun b xs e=>tups b xs (I.base.tups b xs e),fun b o xs e=>frzs b o xs (I.base.frzs b o xs e),fun b ps e => ?_⟩,?_,fun x c e => ?_,?_,fun x c e => ?_,fun p hp => ?_,hok,I.len⟩
  . exact keep b o (neL b o e) hb (neC b o e hx) (I.base.keep b o e n hb hx) (I.base.free b o e n hx)
  . obtain⟨sl,e1⟩:=I.base.slot b o e n hb hx
    obtain⟨sl',e2⟩:=slot b _ (neL b o e) hb (neC b o e hx) e1 (I.base.free b o e n hx);exact⟨sl',e2⟩
  . obtain⟨o',e1⟩:=I.base.there b o e hx
    exact free b o' (neC b o e hx) e1 (I.base.free b o e n hx)
  . obtain⟨o',e1⟩:=I.base.there b o e hx
    exact there b o' (neC b o e hx) e1
  . obtain⟨m1,e1⟩:=I.base.tbls b ps e
    obtain⟨m2,e2⟩:=tbls b _ e1;exact⟨m1++m2,by rw[e2,Array.append_assoc]⟩
  . obtain⟨m,hn,hl⟩:=I.loc
    refine⟨m,ns m hn,fun i x v e1 e2 e3 => ?_⟩;obtain⟨u,r,l⟩:=hl i x v e1 e2 e3;refine⟨u,r,?_⟩
    rcases l with l | ⟨k,c,e,z⟩
    . exact .inl l
    . exact .inr ⟨k,c,e,cellK x c e _ z⟩
  . obtain⟨v,z⟩:=I.cell x c e
    exact⟨v,cellK x c e v z⟩
  . obtain⟨m,⟨o,_,_,ho,_⟩,_⟩:=I.loc
    exact free _ o (fun z=>(hch _ z).2.1 rfl) ho I.free
  . obtain⟨v,o,ho,hd⟩:=I.cell x c e
    exact free c o (fun z=>(hch c z).2.2.1 x c e rfl) ho (I.freeC x c e)
  . obtain⟨e,n,ne,nf,d⟩:=I.pin p hp
    have nch:p.1∉ch:=fun z=>(hch p.1 z).2.2.2 p hp rfl
    exact⟨keep p.1 p.2 ne nf nch e n,free p.1 p.2 nch e n,ne,nf,d⟩
theorem Inv.un{t':Nat}(I:Inv X pins σ H s)(u:Un X.fs [] H H' s.heap h')(hok:HOk X.prog X.w H' h'):Inv X pins σ H' { s with heap:=h',toks:=t' }:=by
  obtain⟨m,⟨o,es,ep,ho,r⟩,_⟩:=id I.loc;obtain⟨sl,hL⟩:=u.any ho I.free (by simp)
  exact I.step (g':=s.gens) (d':=s.drawn) (ch:=[]) (fun _ z=>nomatch z) (fun b o _ hb _ e n=>u.keep b o e n hb (by simp)) (fun b o _ hb _ e n=>u.slot b o e n hb (by simp)) (fun b o _ e n=>u.free b o e n (by simp)) (fun b o _ e=>u.there b o e (by simp)) u.tups u.frzs u.tbls (fun m' hm=>by
    obtain⟨o',es',ep',ho',r'⟩:=hm;rw[ho]at ho';cases ho'
    exact⟨_,es',ep',hL,r'⟩) hok I.bare
theorem Inv.call{g':Array GenState}{t':Nat}{d':Drawn}{ch:List Addr}(I:Inv X pins σ H s)(u:Un (frs X.stack) ch H H' s.heap h')(hok:HOk X.prog X.w H' h')(hg:AllBare g')
    (hch:∀b∈ch,(b∈X.ex\/X.s₀.heap.objs.size<=b)/\b≠X.env.locals/\(∀x c,X.env.cells.lookup x=some c->c≠b)/\∀p∈X.pn++pins,p.1≠b) :
    Inv X pins σ H' { s with heap:=h',gens:=g',drawn:=d',toks:=t' }:=by
  obtain⟨m,⟨o,es,ep,ho,r⟩,_⟩:=id I.loc;obtain⟨sl,hL⟩:=u.any ho I.free fun z=>(hch _ z).2.1 rfl
  exact I.step (ch:=ch) hch (fun b o hL hb hc e n=>u.keep b o e n (fun z=>(ZK.mp (I.stkSub b z)).elim hL hb) hc) (fun b o _ _ hc e n=>u.any e n hc) (fun b o hc e n=>u.free b o e n hc) (fun b o hc e=>u.there b o e hc) u.tups u.frzs u.tbls (fun m' hm=>by
    obtain⟨o',es',ep',ho',r'⟩:=hm;rw[ho]at ho';cases ho'
    exact⟨_,es',ep',hL,r'⟩) hok hg
theorem Inv.turned{t':Nat}{it:Addr}(I:Inv X pins σ H s)(k:∀b o,b≠it->s.heap.get? b=some o->h'.get? b=some o)(hn:H it=none)(hL:it≠X.env.locals)
    (h1:it∈X.ex\/X.s₀.heap.objs.size<=it) (h2:∀x c,X.env.cells.lookup x=some c->c≠it) (h3:∀p∈X.pn++pins,p.1≠it):Inv X pins σ H { s with heap:=h',toks:=t' }:=by
  have nit:∀b u,H b=some u->b≠it:=fun b u e z=>by rw[z,hn]at e;cases e
  refine I.step (g':=s.gens) (d':=s.drawn) (ch:=[it]) (fun b hb => ?_) (fun b o _ _ hc e _=>k b o (fun z=>hc (by simp[z])) e) (fun b o _ _ hc e _=>⟨o.slots,k b o (fun z=>hc (by simp[z])) e⟩) (fun _ _ _ _ n=>n)
    (fun b o hc e=>⟨o,k b o (fun z=>hc (by simp[z])) e⟩) (fun _ _ e=>e) (fun _ _ _ e=>e) (fun b ps e=>⟨#[],by rw[e];simp⟩) (fun m hm => ?_) (fun b u e => ?_) I.bare
  . have e:b=it:=by simpa using hb
    subst e;exact⟨h1,hL,h2,h3⟩
  . obtain⟨o,es,ep,ho,r⟩:=hm
    exact⟨o,es,ep,k _ o (Ne.symm hL) ho,r⟩
  . refine(I.hok b u e).stay (fun c v hc q=>k c v ?_ q) (fun _ q=>q) fun _ _ q=>q
    rcases hc with z | z
    . rw[z];exact nit b u e
    . exact nit c _ z
theorem Inv.tok(I:Inv X pins σ H s)(t:Nat):Inv X pins σ H { s with toks:=t }:=I.un (h':=s.heap) (t':=t) Un.refl I.hok
theorem Inv.kept{t':Nat}(I:Inv X pins σ H s)(k:∀b u,s.heap.get? b=some u->h'.get? b=some u):Inv X pins σ H { s with heap:=h',toks:=t' }:=I.un (Un.kept k) (I.hok.kept k)
theorem Inv.laid{a:Addr}{o:HO}{t':Nat}(I:Inv X pins σ H s)(k:∀b u,s.heap.get? b=some u->h'.get? b=some u)(hp:s.heap.objs.size<=a)(new:ObjOk X.prog X.w (upd H a o) h' a o) :
    Inv X pins σ (upd H a o) { s with heap:=h',toks:=t' }:=I.un (Un.laid k hp (I.hok.fresh hp)) (I.hok.laid k hp new)
theorem Inv.write{x e:Addr}{o:HO}{t':Nat}(I:Inv X pins σ H s)(mu:Mut (H x))(he:e=x\/H e=some (.own x))(k:∀b u,b≠e->s.heap.get? b=some u->h'.get? b=some u)(heo:∃u,h'.get? e=some u)
    (new:ObjOk X.prog X.w (upd H x o) h' x o):Inv X pins σ (upd H x o) { s with heap:=h',toks:=t' }:=I.un (Un.write mu he k heo) (I.hok.write mu he k heo new)
theorem Inv.weak{σ':List (Option V)}(I:Inv X pins σ H s)(hl:σ'.length=σ.length)(w:∀(i:Nat) v,σ'[i]? = some (some v)->σ[i]? = some (some v)):Inv X pins σ' H s :=
  ⟨I.ok,I.os,I.bare,I.base,let ⟨m,hn,hl'⟩:=I.loc;⟨m,hn,fun i x v e1 e2 e3=>hl' i x v e1 (w i v e2) e3⟩,I.cell,I.free,I.freeC,I.pin,I.hok,hl.trans I.len⟩
theorem Inv.pins_of{pins':List (Addr×Obj)}(I:Inv X pins σ H s)(h:∀p∈pins',s.heap.get? p.1=some p.2/\H p.1=none/\p.1≠X.env.locals/\p.1∉X.fs/\∀v,p.2.data≠.cell v):Inv X pins' σ H s :=
  ⟨I.ok,I.os,I.bare,I.base,I.loc,I.cell,I.free,I.freeC,fun p hp=>(ZH.mp hp).elim (fun z=>I.pin p (ZQ _ z)) (h p),I.hok,I.len⟩
theorem zc6{N:List Str}(hN:N.Nodup){i j:Nat}{x:Str}(a:N[i]? = some x)(b:N[j]? = some x):i=j:=by
  obtain⟨h1,e1⟩:=Zc.mp a;obtain⟨h2,e2⟩:=Zc.mp b;exact(Yy hN).mp (e1.trans e2.symm)
theorem zba{M:Model}{A:Around}{E:Value->Shared->Prop}{i:Nat}{x:Str}{v:V}{u:Value}{Q:Unit->Shared->Prop}(I:Inv X pins σ H s)(hN:X.N.Nodup)(hi:X.N[i]? = some x)(hx:Loc X.env.scope x)(r:RelV v u)
    (h:∀s',Inv X pins (σ.set i (some v)) H s'->(∃a,Heap.SameBut a s.heap s'.heap/\(a=X.env.locals\/X.env.cells.lookup x=some a))->Q () s') (hf:X.fn x=true\/X.env.scope.names.lookup x=some .local:=by first | exact .inl rfl | exact .inr rfl | assumption):wpAny M A (storeName X.env x u) Q E s:=by
  obtain⟨m,hn,hl⟩:=id I.loc;have hcls:(X.env.scope.kind==.class||(X.env.scope.kind==.module&&X.env.locals != X.env.globals))=false:=by rw[I.ok.kind];rfl
  have hiσ:i<σ.length:=by rw[I.len];exact(Zc.mp hi).1
  have cne:=I.cne
  have tracked:∀{a:Addr} {h':Heap},(∃o,s.heap.get? a=some o/\H a=none)->Heap.SameBut a s.heap h'->HOk X.prog X.w H h':=fun {a h'} ha hs b ob e=>by
    obtain⟨_,_,hfree⟩:=ha;refine(I.hok b ob e).stay (fun c w' hc q=>(hs.2 c ?_).trans q) (fun _ q=>q) fun _ _ q=>q
    rintro rfl
    rcases hc with rfl | hc
    . rw[hfree]at e;cases e
    . rw[hfree]at hc;cases hc
  rcases hx with hk | hk
  . refine wpAny_storeName_local hk hn (fun h' hn' hs => ?_) hcls
    obtain⟨oL,_,_,hoL,_⟩:=id hn;refine h _ ⟨I.ok,I.os,I.bare,⟨fun b o e n hb hx => ?_,fun b o e n hb hx => ?_,I.base.free,fun b o e hx => ?_,I.base.tups,I.base.frzs,I.base.tbls⟩,⟨_,hn',fun j y v' e1 e2 e3 => ?_⟩,fun y c e => ?_,I.free,I.freeC,fun p hp => ?_,tracked ⟨oL,hoL,I.free⟩ hs,by simpa using I.len⟩ ⟨_,hs,.inl rfl⟩
    . exact(hs.2 b (Zs (Zh (Heap.lt_size e) I.ok.above))).trans (I.base.keep b o e n hb hx)
    . obtain⟨sl,e1⟩:=I.base.slot b o e n hb hx
      exact⟨sl,(hs.2 b (Zs (Zh (Heap.lt_size e) I.ok.above))).trans e1⟩
    . obtain⟨o',e1⟩:=I.base.there b o e hx
      exact⟨o',(hs.2 b (Zs (Zh (Heap.lt_size e) I.ok.above))).trans e1⟩
    . by_cases hj:j=i
      . subst hj
        rw[hi]at e1;cases e1;rw[List.getElem?_set_self hiσ]at e2;cases e2;exact⟨u,r,.inl ⟨hk,by simp⟩⟩
      . rw[List.getElem?_set_ne (Ne.symm hj)]at e2
        obtain⟨u',r',q⟩:=hl j y v' e1 e2 e3;refine⟨u',r',?_⟩
        rcases q with ⟨k,e⟩ | ⟨k,c,e,z⟩
        . refine .inl ⟨k,?_⟩
          have:y≠x:=fun e=>hj (zc6 hN e1 (e▸hi))
          simp[this,e]
        . exact .inr ⟨k,c,e,z.sameBut hs (cne y c e)⟩
    . obtain⟨w',z⟩:=I.cell y c e
      exact⟨w',z.sameBut hs (cne y c e)⟩
    . obtain⟨e,n,ne,nf,d⟩:=I.pin p hp
      exact⟨(hs.2 p.1 ne).trans e,n,ne,nf,d⟩
  . have hfn:X.fn x=true:=by
      rcases hf with z | z
      . exact z
      . rw[z]at hk;cases hk
    obtain⟨c,hc⟩:=I.ok.has x (.inl hk);obtain⟨w',z⟩:=I.cell x c hc;refine wpAny_storeName_cell I.ok.kind hk hc z (fun h' hc' hs => ?_);obtain⟨oc,hoc,hocd⟩:=id z;refine h { s with heap:=h' } ⟨I.ok,I.os,I.bare,⟨fun b o e n hb hx => ?_,fun b o e n hb hx => ?_,I.base.free,fun b o e hx => ?_,I.base.tups,I.base.frzs,I.base.tbls⟩,⟨m,hn.sameBut hs (Ne.symm (cne x c hc)),fun j y v' e1 e2 e3 => ?_⟩,fun y c' e => ?_,I.free,I.freeC,fun p hp => ?_,tracked ⟨oc,hoc,I.freeC x c hc⟩ hs,by simpa using I.len⟩ ⟨c,hs,.inr hc⟩
    . exact(hs.2 b (Zs (Zh (Heap.lt_size e) (I.ok.cab x c hfn hc)))).trans (I.base.keep b o e n hb hx)
    . obtain⟨sl,e1⟩:=I.base.slot b o e n hb hx
      exact⟨sl,(hs.2 b (Zs (Zh (Heap.lt_size e) (I.ok.cab x c hfn hc)))).trans e1⟩
    . obtain⟨o',e1⟩:=I.base.there b o e hx
      exact⟨o',(hs.2 b (Zs (Zh (Heap.lt_size e) (I.ok.cab x c hfn hc)))).trans e1⟩
    . by_cases hj:j=i
      . subst hj
        rw[hi]at e1;cases e1;rw[List.getElem?_set_self hiσ]at e2;cases e2;exact⟨u,r,.inr ⟨.inl hk,c,hc,hc'⟩⟩
      . rw[List.getElem?_set_ne (Ne.symm hj)]at e2
        obtain⟨u',r',q⟩:=hl j y v' e1 e2 e3;refine⟨u',r',?_⟩
        rcases q with q | ⟨k,c',e,z'⟩
        . exact .inl q
        . refine .inr ⟨k,c',e,z'.sameBut hs ?_⟩
          rintro rfl
          exact hj (zc6 hN e1 (I.ok.inj _ _ _ e hc▸hi))
    . by_cases hcc:c'=c
      . subst hcc;exact⟨_,hc'⟩
      . obtain⟨w2,z2⟩:=I.cell y c' e
        exact⟨w2,z2.sameBut hs hcc⟩
    . obtain⟨e,n,ne,nf,d⟩:=I.pin p hp
      refine⟨(hs.2 p.1 ?_).trans e,n,ne,nf,d⟩;intro q;rw[q,hoc]at e;have q':oc=p.2:=Option.some.inj e;exact d w' (by rw[<-q'];exact hocd)
theorem zcy{M:Model}{A:Around}{E:Value->Shared->Prop}{i:Nat}{x:Str}{v:V}{u:Value}{Q:Unit->Shared->Prop}(I:Inv X pins σ H s)(hN:X.N.Nodup)(hi:X.N[i]? = some x)(hx:Loc X.env.scope x)(r:RelV v u)
    (h:∀s',Inv X pins (σ.set i (some v)) H s'->Q () s') (hf:X.fn x=true\/X.env.scope.names.lookup x=some .local:=by first | exact .inl rfl | exact .inr rfl | assumption):wpAny M A (storeName X.env x u) Q E s :=
  zba I hN hi hx r (fun s' I' _=>h s' I') hf
theorem Inv.call'{s':Shared}{ch:List Addr}(I:Inv X pins σ H s)(ho:s'.os=s.os)(u:Un (frs X.stack) ch H H' s.heap s'.heap)(hok:HOk X.prog X.w H' s'.heap)(hg:AllBare s'.gens)
    (hch:∀b∈ch,(b∈X.ex\/X.s₀.heap.objs.size<=b)/\b≠X.env.locals/\(∀x c,X.env.cells.lookup x=some c->c≠b)/\∀p∈X.pn++pins,p.1≠b):Inv X pins σ H' s':=by
  obtain⟨h',g',d',t',o'⟩:=s';have e:o'=s.os:=ho;subst e;exact I.call (g':=g') (t':=t') (d':=d') u hok hg hch
end
abbrev XK:=Value->Option Addr->Hp->Prop
abbrev St:=List (Option V)
abbrev VK:=V->Hp->Prop
abbrev TE:=St->Hp->VK->Prop
abbrev TT:=St->Hp->(Bool->Hp->Prop)->Prop
abbrev TA:=St->Hp->(List V->Hp->Prop)->Prop
structure Ends where
  nx:St->Hp->Prop
  rt:VK
  bk:St->Hp->Prop:=fun _ _=>False
  ct:St->Hp->Prop:=fun _ _=>False
abbrev TS:=Ends->St->Hp->Prop
def EP(X:Cx)(pins:List (Addr×Obj))(σ:St)(Q:VK)(u:Value)(s':Shared):Prop:=∃v H',Inv X pins σ H' s'/\RelV v u/\Q v H'
def TP(X:Cx)(pins:List (Addr×Obj))(σ:St)(Q:Bool->Hp->Prop)(b:Bool)(s':Shared):Prop:=∃H',Inv X pins σ H' s'/\Q b H'
def AP(X:Cx)(pins:List (Addr×Obj))(σ:St)(Q:List V->Hp->Prop)(us:List Value)(s':Shared):Prop:=∃vs H',Inv X pins σ H' s'/\Vals vs us/\Q vs H'
def SP(X:Cx)(pins:List (Addr×Obj))(D:Ends)(f:Flow)(s':Shared):Prop :=
  match f with
  | .next=>∃σ' H',Inv X pins σ' H' s'/\D.nx σ' H'
  | .brk=>∃σ' H',Inv X pins σ' H' s'/\D.bk σ' H'
  | .cont=>∃σ' H',Inv X pins σ' H' s'/\D.ct σ' H'
  | .ret u=>∃v σ' H',Inv X pins σ' H' s'/\RelV v u/\D.rt v H'
def PE(X:Cx)(e:Expr)(t:TE):Prop :=
  ∀(pins:List (Addr×Obj)) (s:Shared) (σ:St) (H:Hp) (Q:VK),Inv X pins σ H s->t σ H Q->wpAny (model X.prog X.w) X.A (eval e X.env) (EP X pins σ Q) X.xe s
def PT(X:Cx)(e:Expr)(t:TT):Prop :=
  ∀(pins:List (Addr×Obj)) (s:Shared) (σ:St) (H:Hp) (Q:Bool->Hp->Prop),Inv X pins σ H s->t σ H Q->wpAny (model X.prog X.w) X.A (isTrue e X.env (eval e X.env)) (TP X pins σ Q) X.xe s
def PW(X:Cx)(e:Expr)(t:TT):Prop :=
  ∀(whole:Sem Value) (pins:List (Addr×Obj)) (s:Shared) (σ:St) (H:Hp) (Q:Bool->Hp->Prop),Inv X pins σ H s->t σ H Q->wpAny (model X.prog X.w) X.A (isTrue e X.env whole) (TP X pins σ Q) X.xe s
theorem PW.pt{X:Cx}{e:Expr}{t:TT}(h:PW X e t):PT X e t:=h _
def PA(X:Cx)(es:List Expr)(t:TA):Prop :=
  ∀(pos:Pos) (pins:List (Addr×Obj)) (s:Shared) (σ:St) (H:Hp) (Q:List V->Hp->Prop),Inv X pins σ H s->t σ H Q->wpAny (model X.prog X.w) X.A (spliced (backTo pos (starEach es X.env))) (AP X pins σ Q) X.xe s
def PS(X:Cx)(st:Stmt)(t:TS):Prop :=
  ∀(pins:List (Addr×Obj)) (s:Shared) (σ:St) (H:Hp) (D:Ends),Inv X pins σ H s->t D σ H->wpAny (model X.prog X.w) X.A (exec st X.env) (SP X pins D) X.xe s
def PSs(X:Cx)(st:List Stmt)(t:TS):Prop :=
  ∀(pins:List (Addr×Obj)) (s:Shared) (σ:St) (H:Hp) (D:Ends),Inv X pins σ H s->t D σ H->wpAny (model X.prog X.w) X.A (execs st X.env) (SP X pins D) X.xe s
theorem thn{α:Type}{t:Sem α}{Q Q':α->Shared->Prop}{M:Model}{A:Around}{E:Value->Shared->Prop}{s:Shared}(h:wpAny M A t Q E s)(hQ:∀a s,Q a s->Q' a s):wpAny M A t Q' E s:=wpAny_mono h hQ fun _ _ x=>x
end L2
namespace L2
open PySem PySem.Spec PyProof.Rows
section
variable{X:Cx}
def tVar(i:Nat):TE:=fun σ H Q=>∃v,σ[i]? = some (some v)/\Q v H
def tC(v:V):TE:=fun _ H Q=>Q v H
theorem pe_var {i:Nat} {x:Str} {pos:Pos} (hN:X.N[i]? = some x) (hv:Vis X.env.scope x) (hd:(x==("__debug__" : Str))=false:=by decide) (hcd:(x==("__classdict__" : Str))=false:=by decide):PE X (.Name x pos) (tVar i):=by
  intro pins s σ H Q I h;obtain⟨v,e,h⟩:=h;obtain⟨m,hn,hl⟩:=I.loc;obtain⟨u,r,l⟩:=hl i x v hN e hv;have fin:EP X pins σ Q u s:=⟨v,H,I,r,h⟩
  rcases l with ⟨hk,hm⟩ | ⟨hk,c,hc,hcell⟩
  . exact wpAny_Name (wpAny_loadName_local I.ok.kind hk hn hm fin) hd
  . rcases hk with hk | hk
    . exact wpAny_Name (wpAny_loadName_cell I.ok.kind hk hc hcell fin) hd
    . exact wpAny_Name (wpAny_loadName_free I.ok.kind hk hc hcell fin hcd) hd
theorem zg{i j pos}:PE X (.Constant (.int i) j pos) (tC (.int i)):=fun _ _ _ H _ I h=>wpAny_Constant_int ⟨.int i,H,I.tok _,⟨_,rfl⟩,h⟩
theorem vz{b j pos}:PE X (.Constant (.bool b) j pos) (tC (.bl b)):=fun _ _ _ H _ I h=>Constant_bool ⟨.bl b,H,I,rfl,h⟩
theorem oy{j pos}:PE X (.Constant .none j pos) (tC .non):=fun _ _ _ H _ I h=>Constant_none ⟨.non,H,I,rfl,h⟩
theorem rk{x j pos}:PE X (.Constant (.str x) j pos) (tC (.str x)):=fun _ _ _ H _ I h=>Calls.Constant_str ⟨.str x,H,I.tok _,⟨_,rfl⟩,h⟩
def Gl(X:Cx)(x:Str):Prop:=X.env.kindOf x=some .globalImplicit
theorem il{E:Value->Shared->Prop}{pins:List (Addr×Obj)}{s:Shared}{σ:St}{H:Hp}{x:Str}{u:Value}{pos:Pos}{Q:Value->Shared->Prop}(I:Inv X pins σ H s)(hg:Gl X x)(hm:X.mg x=some u)(h:Q u s)
    (hd:(x==("__debug__" : Str))=false:=by decide):wpAny (model X.prog X.w) X.A (eval (.Name x pos) X.env) Q E s :=
  Calls.Name_function_global I.ok.kind hg (Calls.loadGlobal_global (by rw[I.ok.glob];exact I.mod.glob.keeps I.bk) hm h) hd
theorem ud{E:Value->Shared->Prop}{pins:List (Addr×Obj)}{s:Shared}{σ:St}{H:Hp}{x:Str}{u:Value}{pos:Pos}{Q:Value->Shared->Prop}(I:Inv X pins σ H s)(hg:Gl X x)(hm:X.mg x=none)(hv:bootBuiltins x=some u)(h:Q u s)
    (hn:x ≠ "__name__" := by decide) (hd:(x==("__debug__" : Str))=false:=by decide):wpAny (model X.prog X.w) X.A (eval (.Name x pos) X.env) Q E s:=by
  obtain⟨mb,h1,h2⟩:=I.mod.blt;exact Calls.Name_function_global I.ok.kind hg (Calls.loadGlobal_builtin (by rw[I.ok.glob];exact I.mod.glob.keeps I.bk) hm (by rw[I.ok.blt];exact h1.keeps I.bk) ((h2 x hn).trans hv) h) hd
theorem zas {x:Str} {v:V} {u:Value} {pos:Pos} (hg:Gl X x) (hm:X.mg x=some u) (r:RelV v u) (hd:(x==("__debug__" : Str))=false:=by decide):PE X (.Name x pos) (tC v) :=
  fun _ _ _ H _ I h=>il I hg hm ⟨v,H,I,r,h⟩ hd
theorem zln {x:Str} {v:V} {u:Value} {pos:Pos} (hg:Gl X x) (hm:X.mg x=none) (hv:bootBuiltins x=some u) (r:RelV v u) (hn:x ≠ "__name__" := by decide) (hd:(x==("__debug__" : Str))=false:=by decide):PE X (.Name x pos) (tC v) :=
  fun _ _ _ H _ I h=>ud I hg hm hv ⟨v,H,I,r,h⟩ hn hd
variable{a b:Expr}{ta tb:TE}{pos:Pos}
def tB(t:TE):TT:=fun σ H Q=>t σ H fun x H1=>∃c,x=.bl c/\Q c H1
theorem v6{e:Expr}{t:TE}(h:PE X e t)(he:∀whole,isTrue e X.env whole=(do let v <-whole;standAt e.pos;holding [v] (truthy v)):=by intro _;rfl):PT X e (tB t):=by
  intro pins s σ H Q I hw;refine isTrue_plain (thn (h pins s σ H _ I hw) fun v s1 ⟨x,H1,I1,r1,q1⟩ => ?_) (he _);obtain⟨d,rfl,q⟩:=q1;cases r1;exact wpAny_truthy_bool ⟨H1,I1,q⟩
variable{tA tB':TT}{rest:List Expr}
def tAnd(t u:TT):TT:=fun σ H Q=>t σ H fun c H1=>if c=true then u σ H1 Q else Q false H1
def tOr(t u:TT):TT:=fun σ H Q=>t σ H fun c H1=>if c=true then Q true H1 else u σ H1 Q
def tNot(t:TT):TT:=fun σ H Q=>t σ H fun c H1=>Q (!c) H1
theorem o0(ha:PT X a tA):PW X (.BoolOp .Or [a] pos) tA:=by
  intro wh pins s σ H Q I h;refine isTrue_or (thn (ha pins s σ H Q I h) fun c s1 e => ?_)
  cases c with
  | false=>exact isTrue_or_nil e
  | true=>exact e
theorem jv(ha:PT X a tA)(hb:PW X (.BoolOp .Or (b::rest) pos) tB'):PW X (.BoolOp .Or (a::b::rest) pos) (tOr tA tB'):=by
  intro wh pins s σ H Q I h;refine isTrue_or (thn (ha pins s σ H _ I h) fun c s1 ⟨H1,I1,q1⟩ => ?_)
  cases c with
  | true=>exact⟨H1,I1,q1⟩
  | false=>exact hb wh pins s1 σ H1 Q I1 q1
theorem vm(ha:PT X a tA):PT X (.UnaryOp .Not a pos) (tNot tA):=by
  intro pins s σ H Q I h;exact isTrue_not (ha pins s σ H (fun c H1=>Q (!c) H1) I h)
def tAndV(ta tb:TE):TE:=fun σ H Q=>ta σ H fun x H1=>∃c,x=.bl c/\if c=true then tb σ H1 Q else Q (.bl false) H1
def tOrV(ta tb:TE):TE:=fun σ H Q=>ta σ H fun x H1=>∃c,x=.bl c/\if c=true then Q (.bl true) H1 else tb σ H1 Q
def tNotV(ta:TE):TE:=fun σ H Q=>ta σ H fun x H1=>∃c,x=.bl c/\Q (.bl (!c)) H1
theorem k7{op}{t:TE}(h:PE X a t):PE X (.BoolOp op [a] pos) t:=fun pins s σ H Q I hw=>BoolOp_one (h pins s σ H Q I hw)
theorem ou(ha:PE X a ta)(hb:PE X (.BoolOp .And (b::rest) pos) tb):PE X (.BoolOp .And (a::b::rest) pos) (tAndV ta tb):=by
  intro pins s σ H Q I h;refine BoolOp_and (thn (ha pins s σ H _ I h) fun v s1 ⟨x,H1,I1,r1,q1⟩ => ?_);obtain⟨c,rfl,q1⟩:=q1;cases r1;refine wpAny_truthy_bool ?_
  cases c with
  | true=>exact hb pins s1 σ H1 Q I1 q1
  | false=>exact⟨.bl false,H1,I1,rfl,q1⟩
theorem pe_not(ha:PE X a ta):PE X (.UnaryOp .Not a pos) (tNotV ta):=by
  intro pins s σ H Q I h;refine UnaryOp_ (thn (ha pins s σ H _ I h) fun v s1 ⟨x,H1,I1,r1,q1⟩ => ?_);obtain⟨c,rfl,q1⟩:=q1;cases r1;exact not_of (wpAny_truthy_bool ⟨.bl (!c),H1,I1,rfl,q1⟩)
def tIf(t:TT)(ta tb:TE):TE:=fun σ H Q=>t σ H fun c H1=>if c=true then ta σ H1 Q else tb σ H1 Q
theorem zkr{c:Expr}(hc:PT X c tA)(ha:PE X a ta)(hb:PE X b tb):PE X (.IfExp c a b pos) (tIf tA ta tb):=by
  intro pins s σ H Q I h;refine wpAny_IfExp (thn (hc pins s σ H _ I h) fun d s1 ⟨H1,I1,q1⟩ => ?_)
  cases d with
  | true=>exact ha pins s1 σ H1 Q I1 q1
  | false=>exact hb pins s1 σ H1 Q I1 q1
end
end L2
namespace L2
open PySem PySem.Spec PyProof.Rows
def SqL(K:Fg)(H:Hp)(a:Addr)(xs:List V):Prop :=
  Rd H a (.lst xs) \/
    ∃(o:Obj) (its:Array Value) (n:Nat),K.lookup a=some o/\o.cls=.type "list" /\ o.dict=none/\o.data=.seq its n/\its.size<=sizeLine/\Vals xs its.toList
def SqT(K:Fg)(H:Hp)(a:Addr)(xs:List V):Prop :=
  Rd H a (.tup xs) \/
    ∃(o:Obj) (its:Array Value) (n:Nat),K.lookup a=some o/\o.cls=.type "tuple" /\ o.data=.seq its n/\its.size<=sizeLine/\Vals xs its.toList
def absV:Value->Option V
  | .none=>some .non
  | .bool b=>some (.bl b)
  | .int i _=>some (.int i)
  | .str x _=>some (.str x)
  | .bytes b _=>some (.byt b)
  | .float b _=>some (.flt b)
  | .ref a=>some (.ref a)
  | .type n=>some (.ty n)
  | _=>none
theorem RelV.abs{x:V}{u:Value}(r:RelV x u):absV u=some x:=by
  cases x with
  | non=>cases r;rfl
  | bl _=>cases r;rfl
  | int _=>obtain⟨t,rfl⟩:=r;rfl
  | str _=>obtain⟨t,rfl⟩:=r;rfl
  | byt _=>obtain⟨t,rfl⟩:=r;rfl
  | flt _=>obtain⟨t,rfl⟩:=r;rfl
  | ref _=>cases r;rfl
  | ty _=>cases r;rfl
theorem RelV.inj{x y:V}{u:Value}(r:RelV x u)(q:RelV y u):x=y:=Option.some.inj (r.abs.symm.trans q.abs)
theorem Vals.inj:∀{xs ys:List V} {us:List Value},Vals xs us->Vals ys us->xs=ys
  | _,_,_,.nil,.nil=>rfl
  | _,_,_,.cons r t,.cons r' t'=>by rw[r.inj r',Vals.inj t t']
section
variable{X:Cx}{pins:List (Addr×Obj)}{σ:St}{H:Hp}{s:Shared}{a:Addr}{xs ys:List V}
theorem SqL.of{K:Fg}(h:H a=some (.lst xs)):SqL K H a xs:=.inl (.inl h)
theorem SqT.of{K:Fg}(h:H a=some (.tup xs)):SqT K H a xs:=.inl (.inl h)
theorem Inv.list(I:Inv X pins σ H s)(h:SqL X.K H a xs):∃its:List Value,Vals xs its/\PlainL s.heap a its.toArray/\xs.length<=sizeLine:=by
  rcases h with h | ⟨o,its,n,hk,hc,hd,hs,hz,r⟩
  . obtain⟨z,its,n,r,e⟩:=h.ok I.hok
    exact⟨its,r,⟨_,n,e,rfl,rfl,rfl⟩,z⟩
  . refine⟨its.toList,r,⟨o,n,I.kIn a o hk,hc,hd,by simpa using hs⟩,?_⟩
    have e:=r.length;simp only[ZS]at e;omega
theorem Inv.tuple(I:Inv X pins σ H s)(h:SqT X.K H a xs):∃its:List Value,Vals xs its/\IsTup s.heap a its.toArray/\xs.length<=sizeLine:=by
  rcases h with h | ⟨o,its,n,hk,hc,hs,hz,r⟩
  . obtain⟨z,its,r,p⟩:=h.ok I.hok
    exact⟨its,r,p.tup,z⟩
  . refine⟨its.toList,r,⟨o,I.kIn a o hk,hc,n,by simpa using hs⟩,?_⟩
    have e:=r.length;simp only[ZS]at e;omega
theorem Inv.list_inj(I:Inv X pins σ H s)(h:SqL X.K H a xs)(h':SqL X.K H a ys):xs=ys:=by
  obtain⟨its,r,⟨o,n,e,_,_,d⟩,_⟩:=I.list h;obtain⟨its',r',⟨o',n',e',_,_,d'⟩,_⟩:=I.list h';rw[e]at e';cases e';rw[d]at d'
  injection d' with d1 _
  have:its=its':=by simpa using congrArg Array.toList d1
  subst this;exact r.inj r'
theorem Inv.tuple_inj(I:Inv X pins σ H s)(h:SqT X.K H a xs)(h':SqT X.K H a ys):xs=ys:=by
  obtain⟨its,r,⟨o,e,_,n,d⟩,_⟩:=I.tuple h;obtain⟨its',r',⟨o',e',_,n',d'⟩,_⟩:=I.tuple h';rw[e]at e';cases e';rw[d]at d'
  injection d' with d1 _
  have:its=its':=by simpa using congrArg Array.toList d1
  subst this;exact r.inj r'
end
abbrev Cx.wish(X:Cx)(E:Value->Shared->Prop):Cx:={ X with xe:=E }
abbrev Cx.nox(X:Cx):Cx:=X.wish fun _ _=>False
theorem Cx.Ok.wish{X:Cx}(ok:X.Ok)(E:Value->Shared->Prop):(X.wish E).Ok :=
  ⟨ok.mod,ok.kind,ok.glob,ok.blt,ok.above,ok.inj,ok.has,ok.cab,ok.hd,ok.frames,ok.stk,ok.exf,ok.bs,ok.bsz,ok.noex,ok.exfs,ok.funs,ok.frf⟩
theorem Cx.Ok.unwish{X:Cx}{E:Value->Shared->Prop}(ok:(X.wish E).Ok):X.Ok :=
  ⟨ok.mod,ok.kind,ok.glob,ok.blt,ok.above,ok.inj,ok.has,ok.cab,ok.hd,ok.frames,ok.stk,ok.exf,ok.bs,ok.bsz,ok.noex,ok.exfs,ok.funs,ok.frf⟩
section
variable{X:Cx}{pins:List (Addr×Obj)}{σ:St}{H:Hp}{s:Shared}{E:Value->Shared->Prop}
theorem Inv.wish(I:Inv X pins σ H s)(E:Value->Shared->Prop):Inv (X.wish E) pins σ H s:=⟨I.ok.wish E,I.os,I.bare,I.base,I.loc,I.cell,I.free,I.freeC,I.pin,I.hok,I.len⟩
theorem Inv.unwish(I:Inv (X.wish E) pins σ H s):Inv X pins σ H s:=⟨I.ok.unwish,I.os,I.bare,I.base,I.loc,I.cell,I.free,I.freeC,I.pin,I.hok,I.len⟩
theorem SP.unwish{D:Ends}{f:Flow}{s':Shared}(h:SP (X.wish E) pins D f s'):SP X pins D f s':=by
  cases f with
  | next=>obtain⟨σ',H',I,q⟩:=h;exact⟨σ',H',I.unwish,q⟩
  | brk=>obtain⟨σ',H',I,q⟩:=h;exact⟨σ',H',I.unwish,q⟩
  | cont=>obtain⟨σ',H',I,q⟩:=h;exact⟨σ',H',I.unwish,q⟩
  | ret u=>obtain⟨v,σ',H',I,r,q⟩:=h;exact⟨v,σ',H',I.unwish,r,q⟩
theorem PSs.nox{st:List Stmt}{t:TS}(h:PSs X.nox st t):PSs X st t:=fun pins s σ H D I hw =>
  wpAny_mono (h pins s σ H D (I.wish _) hw) (fun _ _ q=>q.unwish) fun _ _ z=>False.elim z
end
section
variable{X:Cx}{st:Stmt}{rest:List Stmt}{t u:TS}{e:Expr}{te:TE}{pos:Pos}
def tNext:TS:=fun D σ H=>D.nx σ H
def tSeq(t u:TS):TS:=fun D σ H=>t { D with nx:=u D } σ H
theorem ye:PSs X [] tNext:=fun _ _ σ H _ I h=>wpAny_execs_nil ⟨σ,H,I,h⟩
theorem zj(h1:PS X st t)(h2:PSs X rest u):PSs X (st::rest) (tSeq t u):=by
  intro pins s σ H D I h;refine wpAny_execs_cons (thn (h1 pins s σ H { D with nx:=u D } I h) fun f s1 q => ?_)
  cases f with
  | next =>
    obtain⟨σ',H',I',q⟩:=q;exact h2 pins s1 σ' H' D I' q
  | ret v=>exact q
  | brk=>exact q
  | cont=>exact q
theorem zh(h1:PS X st t):PSs X [st] t:=by
  intro pins s σ H D I h;refine wpAny_execs_cons (thn (h1 pins s σ H D I h) fun f s1 q => ?_)
  cases f with
  | next=>exact wpAny_execs_nil q
  | ret v=>exact q
  | brk=>exact q
  | cont=>exact q
def tBreak:TS:=fun D σ H=>D.bk σ H
def tCont:TS:=fun D σ H=>D.ct σ H
theorem Inv.quiet{pins:List (Addr×Obj)}{σ:St}{H:Hp}{s:Shared}(I:Inv X pins σ H s):interactive X.env=false:=by simp[interactive,I.ok.kind]
def tDrop(te:TE):TS:=fun D σ H=>te σ H fun _ H1=>D.nx σ H1
theorem rh(he:PE X e te)(hs:swapsWith e none pos.line X.env=pure false:=by rfl):PS X (.Expr e pos) (tDrop te):=by
  intro pins s σ H D I h;exact wpAny_Expr_any (thn (he pins s σ H _ I h) fun v s1 ⟨x,H1,I1,r1,q1⟩=>⟨σ,H1,I1,q1⟩) I.quiet hs
def tRet(te:TE):TS:=fun D σ H=>te σ H D.rt
theorem zm(he:PE X e te):PS X (.Return (some e) pos) (tRet te):=by
  intro pins s σ H D I h;exact wpAny_Return_some (thn (he pins s σ H _ I h) fun v s1 ⟨x,H1,I1,r1,q1⟩=>⟨x,σ,H1,I1,r1,q1⟩)
def tRetN:TS:=fun D _ H=>D.rt .non H
def tIfS(c:TT)(t u:TS):TS:=fun D σ H=>c σ H fun b H1=>if b=true then t D σ H1 else u D σ H1
theorem xg{c:Expr}{a b:List Stmt}{tc:TT}(hc:PT X c tc)(ha:PSs X a t)(hb:PSs X b u):PS X (.If c a b pos) (tIfS tc t u):=by
  intro pins s σ H D I h;refine wpAny_If (thn (hc pins s σ H _ I h) fun d s1 ⟨H1,I1,q1⟩ => ?_)
  cases d with
  | true=>exact ha pins s1 σ H1 D I1 q1
  | false=>exact hb pins s1 σ H1 D I1 q1
end
abbrev TG:=V->St->Hp->(St->Hp->Prop)->Prop
abbrev TGs:=List V->St->Hp->(St->Hp->Prop)->Prop
def PG(X:Cx)(target:Expr)(t:TG):Prop :=
  ∀(pins:List (Addr×Obj)) (s:Shared) (σ:St) (H:Hp) (v:V) (u:Value) (Q:St->Hp->Prop),Inv X pins σ H s->RelV v u->t v σ H Q ->
    wpAny (model X.prog X.w) X.A (assign target X.env u) (fun _ s'=>∃σ' H',Inv X pins σ' H' s'/\Q σ' H') X.xe s
def PGs(X:Cx)(ts:List Expr)(t:TGs):Prop :=
  ∀(pins:List (Addr×Obj)) (s:Shared) (σ:St) (H:Hp) (vs:List V) (us:List Value) (Q:St->Hp->Prop),Inv X pins σ H s->Vals vs us->t vs σ H Q ->
    wpAny (model X.prog X.w) X.A (assignInOrder ((assignEach ts X.env).map (·.2)) us) (fun _ s'=>∃σ' H',Inv X pins σ' H' s'/\Q σ' H') X.xe s
abbrev TSet:=V->V->V->Hp->(Hp->Prop)->Prop
def PSet(X:Cx)(t:TSet):Prop :=
  ∀(pins:List (Addr×Obj)) (s:Shared) (σ:St) (H:Hp) (o i v:V) (ov iv u:Value) (Q:Hp->Prop),Inv X pins σ H s->RelV o ov->RelV i iv->RelV v u->t o i v H Q ->
    wpAny (model X.prog X.w) X.A (setItem ov iv u) (fun _ s'=>∃H',Inv X pins σ H' s'/\Q H') X.xe s
abbrev TIp:=V->V->Hp->VK->Prop
section
variable{X:Cx}{pos:Pos}
def zf0(i:Nat):TG:=fun v σ H Q=>Q (σ.set i (some v)) H
theorem zn{i:Nat}{x:Str}(hN:X.N.Nodup)(hi:X.N[i]? = some x)(hx:Loc X.env.scope x)(hf:X.fn x=true\/X.env.scope.names.lookup x=some .local:=by first | exact .inl rfl | exact .inr rfl | assumption):PG X (.Name x pos) (zf0 i):=by
  intro pins s σ H v u Q I r h;exact wpAny_assign_Name (zcy I hN hi hx r (fun s' I'=>⟨_,H,I',h⟩) hf)
def gNil:TGs:=fun vs σ H Q=>vs=[]/\Q σ H
def gCons(t:TG)(u:TGs):TGs:=fun vs σ H Q=>∃v r,vs=v::r/\t v σ H fun σ' H'=>u r σ' H' Q
theorem uw:PGs X [] gNil:=by
  intro pins s σ H vs us Q I r h;obtain⟨e,h⟩:=h;subst e;cases r;exact assignInOrder_nil ⟨σ,H,I,h⟩
theorem yx{e:Expr}{es:List Expr}{t:TG}{u:TGs}(h1:PG X e t)(h2:PGs X es u)
    (hs:(assignEach (e::es) X.env).map (·.2)=assign e X.env::(assignEach es X.env).map (·.2):=by rfl):PGs X (e::es) (gCons t u):=by
  intro pins s σ H vs us Q I r h;obtain⟨v,vr,e1,h⟩:=h;subst e1
  cases r with
  | cons r rr =>
    rw[hs];refine assignInOrder_cons (thn (h1 pins s σ H _ _ _ I r h) fun _ s1 ⟨σ1,H1,I1,q1⟩ => ?_);exact h2 pins s1 σ1 H1 _ _ Q I1 rr q1
def gTup(K:Fg)(n:Nat)(t:TGs):TG:=fun v σ H Q=>∃a xs,v=.ref a/\SqT K H a xs/\xs.length=n/\t xs σ H Q
theorem si{es:List Expr}{k:Nat}{t:TGs}{n:Nat}(hc:X.calm=true)(h:PGs X es t)
    (hn:(assignEach es X.env).length=n:=by rfl) (hst:(assignEach es X.env).findIdx? (·.1)=none:=by rfl):PG X (.Tuple es k pos) (gTup X.K n t):=by
  intro pins s σ H v u Q I r hw;obtain⟨a,xs,e1,hq,hl,hw⟩:=hw;subst e1;cases r;obtain⟨its,rv,ht,hz⟩:=I.tuple hq;refine assign_Tuple_tuple (I.ok.hd hc) ht (by simp[hn,<-hl,rv.length]) hst fun h' hx => ?_
  have I1:Inv X pins σ H { s with heap:=h' }:=I.kept (t':=s.toks) fun b o e=>hx b o (Zs (Heap.lt_size e)) e
  exact h pins _ σ H xs _ Q I1 (by simpa using rv) hw
def gSub(to ti:TE)(t:TSet):TG:=fun v σ H Q=>to σ H fun o H1=>ti σ H1 fun i H2=>t o i v H2 fun H3=>Q σ H3
theorem ax{o i:Expr}{to ti:TE}{t:TSet}(ho:PE X o to)(hi:PE X i ti)(hs:PSet X t)
    (ha:∀v,assign (.Subscript o i pos) X.env v=(do
      let ov <-holding [v] (eval o X.env)
      let iv <-holding [v,ov] (eval i X.env)
      standAt pos
      holding [v,ov,iv] (setItem ov iv v)
      release [v,ov,iv] []):=by intro _;rfl):PG X (.Subscript o i pos) (gSub to ti t):=by
  intro pins s σ H v u Q I r h;rw[ha];refine wpAny_bind (wpAny_holding (thn (ho pins s σ H _ I h) fun ov s1 ⟨x,H1,I1,r1,q1⟩ => ?_));refine wpAny_bind (wpAny_holding (thn (hi pins s1 σ H1 _ I1 q1) fun iv s2 ⟨y,H2,I2,r2,q2⟩ => ?_));refine wpAny_bind (wpAny_standAt (wpAny_bind (wpAny_holding (thn (hs pins s2 σ H2 x y v ov iv u _ I2 r1 r2 r q2) fun _ s3 ⟨H3,I3,q3⟩ => ?_))));exact wpAny_release ⟨σ,H3,I3,q3⟩
def tAsg(te:TE)(g:TG):TS:=fun D σ H=>te σ H fun x H1=>g x σ H1 D.nx
theorem f7{tg e:Expr}{te:TE}{g:TG}(he:PE X e te)(hg:PG X tg g)(hs:swapsWithSole [tg] e pos.line X.env=pure false:=by rfl)(hw:swappedStores [tg] e X.env=pure none:=by rfl)
    (h1:(assignEach [tg] X.env).map (·.2)=[assign tg X.env]:=by rfl):PS X (.Assign [tg] e pos) (tAsg te g):=by
  intro pins s σ H D I h;refine wpAny_Assign_stores (thn (he pins s σ H _ I h) fun v s1 ⟨x,H1,I1,r1,q1⟩ => ?_) hs hw;rw[h1];exact thn (hg pins s1 σ H1 x v _ I1 r1 q1) fun _ s2 q=>q
theorem zw{i:Nat}{x:Str}{e:Expr}{te:TE}{pos':Pos}(hN:X.N.Nodup)(hi:X.N[i]? = some x)(hx:Loc X.env.scope x)(he:PE X e te)(hs:swapsWith e (some (.Name x pos')) pos.line X.env=pure false:=by rfl)(hf:X.fn x=true\/X.env.scope.names.lookup x=some .local:=by first | exact .inl rfl | exact .inr rfl | assumption) :
    PS X (.Assign [.Name x pos'] e pos) (tAsg te (zf0 i)):=by
  intro pins s σ H D I h;refine wpAny_Assign_Name (thn (he pins s σ H _ I h) fun v s1 ⟨y,H1,I1,r1,q1⟩ => ?_) hs;exact zcy I1 hN hi hx r1 (fun s2 I2=>⟨_,H1,I2,q1⟩) hf
def tAugS(to ti te:TE)(tget:V->V->Hp->VK->Prop)(tip:TIp)(tset:TSet):TS:=fun D σ H=>to σ H fun o H1=>ti σ H1 fun i H2=>tget o i H2 fun x H3=>te σ H3 fun y H4=>tip x y H4 fun z H5=>tset o i z H5 fun H6=>D.nx σ H6
def ipI(f:Int->Int->Int):TIp:=fun x y H Q=>∃i j,x=.int i/\y=.int j/\Q (.int (f i j)) H
end
section
variable{X:Cx}{pos:Pos}
end
structure It where
  go:Nat->Hp->Prop
  yld:Nat->Hp->V->Hp->Prop
  stop:Nat->Hp->Prop
def FpOk(X:Cx)(pins:List (Addr×Obj))(H:Hp)(b:Addr):Prop :=
  H b=none/\b≠X.env.locals/\b∉X.fs/\(b∈X.ex\/X.s₀.heap.objs.size<=b)/\(∀x c,X.env.cells.lookup x=some c->c≠b)/\∀p∈X.pn++pins,p.1≠b
theorem Inv.fpOk{X:Cx}{pins:List (Addr×Obj)}{σ:St}{H H':Hp}{s:Shared}{b:Addr}(I:Inv X pins σ H s)(hb:s.heap.objs.size<=b)(hn:H' b=none):FpOk X pins H' b:=by
  refine⟨hn,Ym (Zh I.lt hb),I.nofs hb,.inr (Zd I.sz hb),fun x c e z => ?_,fun p hp z => ?_⟩
  . obtain⟨v,q⟩:=I.cell x c e
    exact absurd (Zh q.lt (by rw[z];exact hb)) (ZJ _)
  . exact absurd (Zh (Heap.lt_size (I.pin p hp).1) (by rw[z];exact hb)) (ZJ _)
structure Turn(P:Program)(w:World)(K:Fg)(tg:Expr)(J:It)(fp:List Addr)(it:Addr)(tn:Nat->Heap->Prop):Prop where
  mem:it∈fp
  obj:∀i h,tn i h->∀b∈fp,∃o,h.get? b=some o/\∀v,o.data≠.cell v
  keep:∀i h h',tn i h->(∀b∈fp,∀o,h.get? b=some o->h'.get? b=some o)->tn i h'
  item:∀(X:Cx),X.prog=P->X.w=w->X.K=K->X.calm=true->∀(i:Nat) (pins:List (Addr×Obj)) (s:Shared) (σ:St) (H:Hp) (E:Value->Shared->Prop),Inv X pins σ H s->(∀b∈fp,FpOk X pins H b)->tn i s.heap->J.go i H ->
    wpAny (model P w) X.A (pyNext (.ref it)) (fun r s1=>∃u,r=some u /\
      wpAny (model P w) X.A (letOwnedTupleGo tg (.ref it) u) (fun _ s2=>∃x H',Inv X pins σ H' s2/\RelV x u/\J.yld i H x H'/\tn (i+1) s2.heap/\∀b∈fp,H' b=none) E s1) E s
  done:∀(X:Cx),X.prog=P->X.w=w->X.K=K->X.calm=true->∀(i:Nat) (pins:List (Addr×Obj)) (s:Shared) (σ:St) (H:Hp) (E:Value->Shared->Prop),Inv X pins σ H s->(∀b∈fp,FpOk X pins H b)->tn i s.heap->J.stop i H ->
    wpAny (model P w) X.A (pyNext (.ref it)) (fun r s1=>r=none/\Inv X pins σ H s1) E s
  self:∀(A:Around) (i:Nat) (s:Shared) (Q:Value->Shared->Prop) (E:Value->Shared->Prop),tn i s.heap->Q (.ref it) s->wpAny (model P w) A (pyIter (.ref it)) Q E s
abbrev TI:=St->Hp->(It->Hp->Prop)->Prop
def PIE(X:Cx)(pins:List (Addr×Obj))(σ:St)(tg:Expr)(R:It->Hp->Prop)(itv:Value)(s2:Shared):Prop :=
  ∃(it:Addr) (fp:List Addr) (tn:Nat->Heap->Prop) (J:It) (H':Hp),itv=.ref it/\Inv X pins σ H' s2/\Turn X.prog X.w X.K tg J fp it tn/\tn 0 s2.heap/\(∀b∈fp,FpOk X pins H' b)/\R J H'
def PI(X:Cx)(tg iter:Expr)(wi:TI):Prop :=
  ∀(pins:List (Addr×Obj)) (s:Shared) (σ:St) (H:Hp) (R:It->Hp->Prop),Inv X pins σ H s->wi σ H R ->
    wpAny (model X.prog X.w) X.A (eval iter X.env) (fun v s1=>wpAny (model X.prog X.w) X.A (pyIter v) (PIE X pins σ tg R) X.xe s1) X.xe s
theorem i4{M:Model}{A:Around}{E:Value->Shared->Prop}{s:Shared}{tg:Expr}{it:Addr}{u:Value}{o:Obj}{n:String}{vs:Array Value}{Q:Unit->Shared->Prop}(ho:s.heap.get? it=some o)(hc:o.cls=.type n)(hd:o.data=.fields vs)
    (hn:["enumerate", "zip", "dict_itemiterator", "dict_reverseitemiterator", "odict_iterator", "itertools.zip_longest", "itertools.pairwise"].contains n=false) (hQ:Q () s):wpAny M A (letOwnedTupleGo tg (.ref it) u) Q E s:=by
  unfold letOwnedTupleGo
  cases tg <;> first
    | exact wpAny_pure hQ
    | (cases u <;> first
        | exact wpAny_pure hQ
        | (refine wpAny_bind (wpAny_load ho ?_)
           rw[hc,hd]
           show wpAny M A (if (["enumerate", "zip", "dict_itemiterator", "dict_reverseitemiterator", "odict_iterator", "itertools.zip_longest", "itertools.pairwise"].contains n&&vs[0]? == some (rawInt _))=true then _ else _) Q E s
           rw[if_neg (by intro h;rw[hn,Bool.false_and]at h;cases h)]
           exact wpAny_pure hQ))
def Itl(K:Fg)(a:Addr):It :=
  ⟨fun i H=>∃xs x,SqL K H a xs/\xs[i]? = some x,fun i H x H'=>H'=H/\∀xs,SqL K H a xs->xs[i]? = some x,fun i H=>∃xs,SqL K H a xs/\xs.length<=i⟩
def Itt(K:Fg)(a:Addr):It :=
  ⟨fun i H=>∃xs x,SqT K H a xs/\xs[i]? = some x,fun i H x H'=>H'=H/\∀xs,SqT K H a xs->xs[i]? = some x,fun i H=>∃xs,SqT K H a xs/\xs.length<=i⟩
def Itr(lo:Int)(n:Nat):It:=⟨fun i _=>i<n,fun i H x H'=>H'=H/\x=.int (lo+i),fun i _=>n<=i⟩
theorem zjr{P:Program}{w:World}{K:Fg}{tg:Expr}(a it:Addr):Turn P w K tg (Itl K a) [it] it (fun i h=>h.IsListIter it a i) where
  mem:=by simp
  obj:=fun i h st b hb=>by
    have e:b=it:=by simpa using hb
    subst e;obtain⟨o,e,c,d⟩:=st;exact⟨o,e,fun v z=>by rw[d]at z;cases z⟩
  keep:=fun i h h' st k=>st.at fun o e=>k it (by simp) o e
  item:=by
    intro X hP hw hK hc i pins s σ H E I hf st hg;subst hP hw hK;obtain⟨xs,x,hq,hx⟩:=hg;obtain⟨its,rv,p,hz⟩:=I.list hq;obtain⟨u,hu,ru⟩:=rv.get hx;obtain⟨f0,f1,f2,f3,f4,f5⟩:=hf it (by simp);refine wpAny_pyNext_list_item st p.isList (x:=u) (by simpa using hu) fun h' st' sb => ?_
    have I1:Inv X pins σ H { s with heap:=h' }:=I.turned (t':=s.toks) (fun b o hb e=>(sb.2 b hb).trans e) f0 f1 f3 f4 f5;obtain⟨o,e,c,d⟩:=id st';exact⟨u,rfl,i4 (s:={ s with heap:=h' }) e c d (by decide) ⟨x,H,I1,ru,⟨rfl,fun ys hy=>by rw[I.list_inj hy hq];exact hx⟩,st',fun b hb=>(hf b hb).1⟩⟩
  done:=by
    intro X hP hw hK hc i pins s σ H E I hf st hg;subst hP hw hK;obtain⟨xs,hq,hx⟩:=hg;obtain⟨its,rv,p,hz⟩:=I.list hq;obtain⟨f0,f1,f2,f3,f4,f5⟩:=hf it (by simp);have hl:=rv.length;exact wpAny_pyNext_list_end (I.ok.hd hc) st p.isList (by simp;omega) fun h' eb=>⟨rfl,I.turned (t':=s.toks) (fun b o hb e=>eb b o hb e) f0 f1 f3 f4 f5⟩
  self:=fun _ _ _ _ _ st h=>wpAny_pyIter_listiter st h
theorem zgg{P:Program}{w:World}{K:Fg}{tg:Expr}(a it:Addr):Turn P w K tg (Itt K a) [it] it (fun i h=>h.IsTupleIter it a i) where
  mem:=by simp
  obj:=fun i h st b hb=>by
    have e:b=it:=by simpa using hb
    subst e;obtain⟨o,e,c,d⟩:=st;exact⟨o,e,fun v z=>by rw[d]at z;cases z⟩
  keep:=fun i h h' st k=>st.at fun o e=>k it (by simp) o e
  item:=by
    intro X hP hw hK hc i pins s σ H E I hf st hg;subst hP hw hK;obtain⟨xs,x,hq,hx⟩:=hg;obtain⟨its,rv,p,hz⟩:=I.tuple hq;obtain⟨u,hu,ru⟩:=rv.get hx;obtain⟨f0,f1,f2,f3,f4,f5⟩:=hf it (by simp);refine wpAny_pyNext_tuple_item st (show s.heap.IsTuple a its.toArray from p) (x:=u) (by simpa using hu) fun h' st' sb => ?_
    have I1:Inv X pins σ H { s with heap:=h' }:=I.turned (t':=s.toks) (fun b o hb e=>(sb.2 b hb).trans e) f0 f1 f3 f4 f5;obtain⟨o,e,c,d⟩:=id st';exact⟨u,rfl,i4 (s:={ s with heap:=h' }) e c d (by decide) ⟨x,H,I1,ru,⟨rfl,fun ys hy=>by rw[I.tuple_inj hy hq];exact hx⟩,st',fun b hb=>(hf b hb).1⟩⟩
  done:=by
    intro X hP hw hK hc i pins s σ H E I hf st hg;subst hP hw hK;obtain⟨xs,hq,hx⟩:=hg;obtain⟨its,rv,p,hz⟩:=I.tuple hq;obtain⟨f0,f1,f2,f3,f4,f5⟩:=hf it (by simp);have hl:=rv.length;exact wpAny_pyNext_tuple_end (I.ok.hd hc) st (show s.heap.IsTuple a its.toArray from p) (by simp;omega) fun h' eb=>⟨rfl,I.turned (t':=s.toks) (fun b o hb e=>eb b o hb e) f0 f1 f3 f4 f5⟩
  self:=fun _ _ _ _ _ st h=>wpAny_pyIter_tupleiter st h
theorem zgk{P:Program}{w:World}{K:Fg}{tg:Expr}(it:Addr)(lo:Int)(n:Nat):Turn P w K tg (Itr lo n) [it] it (fun i h=>IsRangeIter h it (lo+(i:Nat)*1) ((n:Int)-(i:Nat)) 1) where
  mem:=by simp
  obj:=fun i h st b hb=>by
    have e:b=it:=by simpa using hb
    subst e
    exact⟨_,st,fun v z=>by
      have z':Data.fields _=Data.cell v:=z
      cases z'⟩
  keep:=fun i h h' st k=>k it (by simp) _ st
  item:=by
    intro X hP hw hK hc i pins s σ H E I hf st hg;subst hP hw hK;obtain⟨f0,f1,f2,f3,f4,f5⟩:=hf it (by simp);have W:=Walks.range (prog:=X.prog) (w:=X.w) (I.ok.hd hc) it lo 1 n;refine W.item i s _ _ hg st fun v h' tk hv st' kk => ?_
    obtain⟨t,rfl⟩:=hv;have I1:Inv X pins σ H { s with heap:=h',toks:=tk }:=I.turned (fun b o hb e=>kk b o (by simpa using hb) e) f0 f1 f3 f4 f5;refine⟨_,rfl,i4 (s:={ s with heap:=h',toks:=tk }) (n := "range_iterator") st' rfl rfl (by decide) ⟨.int (lo+i),H,I1,⟨t,?_⟩,⟨rfl,rfl⟩,st',fun b hb=>(hf b hb).1⟩⟩;rw[Int.mul_one]
  done:=by
    intro X hP hw hK hc i pins s σ H E I hf st hg;subst hP hw hK;obtain⟨f0,f1,f2,f3,f4,f5⟩:=hf it (by simp);exact wpAny_pyNext_range_end (I.ok.hd hc) st (by have:n<=i:=hg;omega) fun h' eb=>⟨rfl,I.turned (t':=s.toks) (fun b o hb e=>eb b o hb e) f0 f1 f3 f4 f5⟩
  self:=fun _ _ _ _ _ st h=>wpAny_pyIter_rangeiter st h
end L2
namespace L2
open PySem PySem.Spec PyProof.Rows
section
variable{X:Cx}{tg:Expr}
def iList(K:Fg)(tl:TE):TI:=fun σ H R=>tl σ H fun x H1=>∃a,x=.ref a/\(∃xs,SqL K H1 a xs)/\R (Itl K a) H1
def iTup(K:Fg)(tl:TE):TI:=fun σ H R=>tl σ H fun x H1=>∃a,x=.ref a/\(∃xs,SqT K H1 a xs)/\R (Itt K a) H1
theorem yk{l:Expr}{tl:TE}(hl:PE X l tl):PI X tg l (iList X.K tl):=by
  intro pins s σ H R I h;refine thn (hl pins s σ H _ I h) fun v s1 ⟨x,H1,I1,r1,q1⟩ => ?_
  obtain⟨a,e,⟨xs,hq⟩,q⟩:=q1;subst e;cases r1;obtain⟨its,rv,p,hz⟩:=I1.list hq;refine wpAny_pyIter_list p.isList ?_;refine⟨s1.heap.objs.size,[s1.heap.objs.size],_,_,H1,rfl,I1.kept (t':=s1.toks) fun b o e=>Heap.get?_push_of_some _ e,zjr a _,⟨_,Heap.get?_push_size _ rfl,rfl,rfl⟩,fun b hb => ?_,q⟩;have e:b=s1.heap.objs.size:=by simpa using hb
  subst e;exact I1.fpOk (Zm _) (I1.hok.fresh (Zm _))
theorem zab{l:Expr}{tl:TE}(hl:PE X l tl):PI X tg l (iTup X.K tl):=by
  intro pins s σ H R I h;refine thn (hl pins s σ H _ I h) fun v s1 ⟨x,H1,I1,r1,q1⟩ => ?_
  obtain⟨a,e,⟨xs,hq⟩,q⟩:=q1;subst e;cases r1;obtain⟨its,rv,p,hz⟩:=I1.tuple hq;refine wpAny_pyIter_tuple (show s1.heap.IsTuple a its.toArray from p) ?_;refine⟨s1.heap.objs.size,[s1.heap.objs.size],_,_,H1,rfl,I1.kept (t':=s1.toks) fun b o e=>Heap.get?_push_of_some _ e,zgg a _,⟨_,Heap.get?_push_size _ rfl,rfl,rfl⟩,fun b hb => ?_,q⟩;have e:b=s1.heap.objs.size:=by simpa using hb
  subst e;exact I1.fpOk (Zm _) (I1.hok.fresh (Zm _))
theorem zdr{pins:List (Addr×Obj)}{σ:St}{H:Hp}{s:Shared}{R:It->Hp->Prop}{E:Value->Shared->Prop}{lo hi:Int}{t u v:Tok}{tk:Nat}(I:Inv X pins σ H s)(h1 : -(2^62)<=lo)(h2:lo<2^62)(h3 : -(2^62)<=hi)(h4:hi<2^62)
    (q:R (Itr lo (hi-lo).toNat) H):wpAny (model X.prog X.w) X.A (pyIter (.ref s.heap.objs.size)) (PIE X pins σ tg R) E { s with heap:=s.heap.push { cls:=.type "range", data:=.fields #[.int lo t,.int hi u,.int 1 v] },toks:=tk }:=by
  refine wpAny_pyIter_range (IsRange.new ..) (small_one h1 h2 h3 h4) ?_;have I1:Inv X pins σ H { s with heap:=s.heap.push { cls:=.type "range", data:=.fields #[.int lo t,.int hi u,.int 1 v] },toks:=tk }:=I.kept fun b o e=>Heap.get?_push_of_some _ e
  refine⟨(s.heap.push { cls:=.type "range", data:=.fields #[.int lo t,.int hi u,.int 1 v] }).objs.size,[(s.heap.push { cls:=.type "range", data:=.fields #[.int lo t,.int hi u,.int 1 v] }).objs.size],_,_,H,rfl,
    I1.kept (t':=tk) fun b o e=>Heap.get?_push_of_some _ e,zgk _ lo (hi-lo).toNat,?_,fun b hb => ?_,q⟩
  . have e1:lo+((0:Nat):Int)*1=lo:=by simp
    have e2:(((hi-lo).toNat:Nat):Int)-((0:Nat):Int)=Builtin.Range.rangeSize lo hi 1:=by rw[rangeSize_one];split <;> omega
    show IsRangeIter _ _ (lo+((0:Nat):Int)*1) ((((hi-lo).toNat:Nat):Int)-((0:Nat):Int)) 1
    rw[e1,e2];exact Heap.get?_push_size _ rfl
  . have e:b=(s.heap.push { cls:=.type "range", data:=.fields #[.int lo t,.int hi u,.int 1 v] }).objs.size:=by simpa using hb
    subst e;exact I1.fpOk (Zm _) (I1.hok.fresh (Zm _))
def iRng1(ta:TA):TI:=fun σ H R=>ta σ H fun vs H1=>∃j:Int,vs=[.int j] /\ -(2^62)<=j/\j<2^62/\R (Itr 0 j.toNat) H1
def iRng2(ta:TA):TI:=fun σ H R=>ta σ H fun vs H1=>∃i j:Int,vs=[.int i,.int j]/\(-(2^62)<=i/\i<2^62 /\ -(2^62)<=j/\j<2^62)/\R (Itr i (j-i).toNat) H1
theorem yv {a:Expr} {ta:TA} {p pos:Pos} (hg:Gl X "range") (hm:X.mg "range" = none) (ha:PA X [a] ta) (hs:starEach [a] X.env=[(false,eval a X.env)]:=by rfl):PI X tg (.Call (.Name "range" p) [a] [] pos) (iRng1 ta):=by
  intro pins s σ H R I h;refine Call_ (ud I hg hm boot_range (PyProof.Rows.callWith_type1 (thn (ha pos pins s σ H _ I h) fun us s1 ⟨vs,H1,I1,r1,q1⟩ => ?_) hs rfl));obtain⟨j,e,q1,q2,q⟩:=q1;subst e
  cases r1 with
  | cons r rr =>
    cases rr;obtain⟨t,rfl⟩:=r;exact call_range_1 (zdr I1 (by omega) (by omega) q1 q2 (by simpa using q))
theorem fb {a b:Expr} {ta:TA} {p pos:Pos} (hg:Gl X "range") (hm:X.mg "range" = none) (ha:PA X [a,b] ta) (hs:starEach [a,b] X.env=[(false,eval a X.env),(false,eval b X.env)]:=by rfl) (hs2:starEach [b] X.env=[(false,eval b X.env)]:=by rfl) :
    PI X tg (.Call (.Name "range" p) [a,b] [] pos) (iRng2 ta):=by
  intro pins s σ H R I h;refine Call_ (ud I hg hm boot_range (PyProof.Rows.callWith_type1 (thn (ha pos pins s σ H _ I h) fun us s1 ⟨vs,H1,I1,r1,q1⟩ => ?_) (by rw[hs,hs2]) (by rw[hs2];rfl)));obtain⟨i,j,e,⟨q1,q2,q3,q4⟩,q⟩:=q1;subst e
  cases r1 with
  | cons r rr =>
    cases rr with
    | cons r' rr =>
      cases rr;obtain⟨t,rfl⟩:=r;obtain⟨t',rfl⟩:=r';exact call_range_2 (zdr I1 q1 q2 q3 q4 q)
def tFor(wi:TI)(g:TG)(tb:TS):TS:=fun D σ H=>wi σ H fun J H1=>∃W:Nat->Nat->St->Hp->Prop,(∃m,W 0 m σ H1)/\∀i m σ H,W i m σ H ->
  (J.stop i H/\D.nx σ H)\/(J.go i H/\∃N:St->Hp->Prop,(∀σ' H',N σ' H'->∃m',m'<m/\W (i+1) m' σ' H')/\∀x H',J.yld i H x H'->g x σ H' fun σ2 H2=>tb { D with nx:=N,ct:=N,bk:=D.nx } σ2 H2)
def fz(fp:List Addr)(h:Heap):List (Addr×Obj):=fp.filterMap fun b=>(h.get? b).map fun o=>(b,o)
theorem qq{fp:List Addr}{h:Heap}{b:Addr}{o:Obj}(hb:b∈fp)(e:h.get? b=some o):(b,o)∈fz fp h:=Yj.mpr ⟨b,hb,by rw[e];rfl⟩
theorem zir{fp:List Addr}{h:Heap}{p:Addr×Obj}(hp:p∈fz fp h):p.1∈fp/\h.get? p.1=some p.2:=by
  obtain⟨b,hb,e⟩:=Yj.mp hp
  cases q:h.get? b with
  | none=>rw[q]at e;cases e
  | some o =>
    rw[q]at e;have e':(b,o)=p:=Option.some.inj e;subst e';exact⟨hb,q⟩
theorem Inv.pinned{pins:List (Addr×Obj)}{σ:St}{H:Hp}{s:Shared}{fp:List Addr}(I:Inv X pins σ H s)(hf:∀b∈fp,FpOk X pins H b)(ho:∀b∈fp,∃o,s.heap.get? b=some o/\∀v,o.data≠.cell v):Inv X (pins++fz fp s.heap) σ H s :=
  I.pins_of fun p hp=>(ZH.mp hp).elim (fun z=>I.pin p (Zu _ z)) fun z=>by
    obtain⟨hb,e⟩:=zir z;obtain⟨f0,f1,f2,_⟩:=hf p.1 hb;obtain⟨o,e',d⟩:=ho p.1 hb;rw[e]at e';cases e';exact⟨e,f0,f1,f2,d⟩
theorem Inv.unpinned{pins pl:List (Addr×Obj)}{σ:St}{H:Hp}{s:Shared}(I:Inv X (pins++pl) σ H s):Inv X pins σ H s:=I.pins_of fun p hp=>I.pin p (Zu _ (ZQ _ hp))
theorem we{iter:Expr}{body:List Stmt}{wi:TI}{g:TG}{tb:TS}{pos:Pos}(hp:PassesOwn (model X.prog X.w) X.A X.env X.xe)(hc:X.calm=true)(hi:PI X tg iter wi)(hg:PG X tg g)(hb:PSs X body tb)
    (hs:∀x,foldedSetIterable iter X.env x=pure x:=by intro _;rfl):PS X (.For tg iter body [] pos) (tFor wi g tb):=by
  intro pins s σ H D I h;refine wpAny_For (thn (hi pins s σ H _ I h) fun v s1 h1=>thn h1 fun itv s2 h2 => ?_) hs;obtain⟨it,fp,tn,J,H2,e,I2,T,st2,f2,W,⟨m0,w0⟩,turn⟩:=h2;subst e
  -- what stays true of the iterator's objects through the loop
  have stat:∀{H':Hp},(∀b∈fp,H' b=none)->∀b∈fp,FpOk X pins H' b:=fun hn b hb=>⟨hn b hb,(f2 b hb).2⟩
  refine codeAny_forLoop_any (fun n s'=>∃i σ' H',Inv X pins σ' H' s'/\tn i s'.heap/\(∀b∈fp,H' b=none)/\W i n σ' H') ?_ m0 ⟨0,σ,H2,I2,st2,fun b hb=>(f2 b hb).1,w0⟩
  rintro n s3 ⟨i,σ3,H3,I3,st3,fr3,w3⟩
  rcases turn i n σ3 H3 w3 with ⟨stop,qn⟩ | ⟨go,N,hN,step⟩
  . refine wpAny_passesOwn hp (thn (T.done X rfl rfl rfl hc i pins s3 σ3 H3 X.xe I3 (stat fr3) st3 stop) fun r s4 ⟨hr,I4⟩ => ?_)
    subst hr;exact wpAny_execs_nil ⟨σ3,H3,I4,qn⟩
  . refine wpAny_passesOwn hp (thn (T.item X rfl rfl rfl hc i pins s3 σ3 H3 X.xe I3 (stat fr3) st3 go) fun r s4 ⟨u,hr,h4⟩ => ?_)
    subst hr;refine wpAny_passesOwn hp (thn h4 fun _ s5 ⟨x,H5,I5,r5,y5,st5,fr5⟩ => ?_);have I5':=I5.pinned (stat fr5) (T.obj _ _ st5);refine wpAny_passesOwn hp (thn (hg _ s5 σ3 H5 x u _ I5' r5 (step x H5 y5)) fun _ s6 ⟨σ6,H6,I6,q6⟩ => ?_);refine wpAny_passesOwn hp (thn (hb _ s6 σ6 H6 _ I6 q6) fun f s7 q7 => ?_)
    have again:∀{σ7:St} {H7:Hp},Inv X (pins++fz fp s5.heap) σ7 H7 s7->N σ7 H7->∃m,m<n/\∃i σ' H',Inv X pins σ' H' s7/\tn i s7.heap/\(∀b∈fp,H' b=none)/\W i m σ' H':=fun {σ7 H7} I7 n7=>by
      obtain⟨m',hm,w7⟩:=hN σ7 H7 n7;refine⟨m',hm,i+1,σ7,H7,I7.unpinned,T.keep _ _ _ st5 fun b hb o e=>(I7.pin (b,o) (Zu _ (Zu _ (qq hb e)))).1,fun b hb => ?_,w7⟩;obtain⟨o,e,d⟩:=T.obj _ _ st5 b hb;exact(I7.pin (b,o) (Zu _ (Zu _ (qq hb e)))).2.1
    cases f with
    | next=>obtain⟨σ7,H7,I7,n7⟩:=q7;exact again I7 n7
    | cont=>obtain⟨σ7,H7,I7,n7⟩:=q7;exact again I7 n7
    | brk=>obtain⟨σ7,H7,I7,q7⟩:=q7;exact⟨σ7,H7,I7.unpinned,q7⟩
    | ret v=>obtain⟨x7,σ7,H7,I7,r7,q7⟩:=q7;exact⟨x7,σ7,H7,I7.unpinned,r7,q7⟩
end
theorem uk{K:Fg}{a:Addr}{xs:List V}{g:TG}{tb:TS}{D:Ends}{σ:St}{H:Hp}(Pv:Nat->St->Hp->Prop)(h0:Pv 0 σ H)(hl:∀i σ H,i<=xs.length->Pv i σ H->SqL K H a xs)
    (hs:∀i x σ H,xs[i]? = some x->Pv i σ H->g x σ H fun σ2 H2=>tb { D with nx:=Pv (i+1),ct:=Pv (i+1),bk:=D.nx } σ2 H2) (hd:∀σ H,Pv xs.length σ H->D.nx σ H) :
    ∃W:Nat->Nat->St->Hp->Prop,(∃m,W 0 m σ H)/\∀i m σ H,W i m σ H ->
      ((Itl K a).stop i H/\D.nx σ H)\/((Itl K a).go i H/\∃N:St->Hp->Prop,(∀σ' H',N σ' H'->∃m',m'<m/\W (i+1) m' σ' H')/\∀x H',(Itl K a).yld i H x H'->g x σ H' fun σ2 H2=>tb { D with nx:=N,ct:=N,bk:=D.nx } σ2 H2):=by
  refine⟨fun i m σ H=>m=xs.length-i/\i<=xs.length/\Pv i σ H,⟨xs.length,by simp,ZE _,h0⟩,?_⟩
  rintro i m σ H ⟨rfl,hi,p⟩
  have q:=hl i σ H hi p
  by_cases hlt:i<xs.length
  . refine .inr ⟨⟨xs,xs[i],q,by simp[hlt]⟩,Pv (i+1),fun σ' H' p'=>⟨xs.length-(i+1),by omega,rfl,hlt,p'⟩,fun x H' y => ?_⟩
    obtain⟨e,y⟩:=y;subst e;exact hs i x σ _ (y xs q) p
  . have e:i=xs.length:=by omega
    subst e;exact .inl ⟨⟨xs,q,Zm _⟩,hd σ H p⟩
theorem zlp{K:Fg}{a:Addr}{xs:List V}{g:TG}{tb:TS}{D:Ends}{σ:St}{H:Hp}(Pv:Nat->St->Hp->Prop)(h0:Pv 0 σ H)(hl:∀i σ H,i<=xs.length->Pv i σ H->SqT K H a xs)
    (hs:∀i x σ H,xs[i]? = some x->Pv i σ H->g x σ H fun σ2 H2=>tb { D with nx:=Pv (i+1),ct:=Pv (i+1),bk:=D.nx } σ2 H2) (hd:∀σ H,Pv xs.length σ H->D.nx σ H) :
    ∃W:Nat->Nat->St->Hp->Prop,(∃m,W 0 m σ H)/\∀i m σ H,W i m σ H ->
      ((Itt K a).stop i H/\D.nx σ H)\/((Itt K a).go i H/\∃N:St->Hp->Prop,(∀σ' H',N σ' H'->∃m',m'<m/\W (i+1) m' σ' H')/\∀x H',(Itt K a).yld i H x H'->g x σ H' fun σ2 H2=>tb { D with nx:=N,ct:=N,bk:=D.nx } σ2 H2):=by
  refine⟨fun i m σ H=>m=xs.length-i/\i<=xs.length/\Pv i σ H,⟨xs.length,by simp,ZE _,h0⟩,?_⟩
  rintro i m σ H ⟨rfl,hi,p⟩
  have q:=hl i σ H hi p
  by_cases hlt:i<xs.length
  . refine .inr ⟨⟨xs,xs[i],q,by simp[hlt]⟩,Pv (i+1),fun σ' H' p'=>⟨xs.length-(i+1),by omega,rfl,hlt,p'⟩,fun x H' y => ?_⟩
    obtain⟨e,y⟩:=y;subst e;exact hs i x σ _ (y xs q) p
  . have e:i=xs.length:=by omega
    subst e;exact .inl ⟨⟨xs,q,Zm _⟩,hd σ H p⟩
theorem vg{lo:Int}{n:Nat}{g:TG}{tb:TS}{D:Ends}{σ:St}{H:Hp}(Pv:Nat->St->Hp->Prop)(h0:Pv 0 σ H)
    (hs:∀i σ H,i<n->Pv i σ H->g (.int (lo+i)) σ H fun σ2 H2=>tb { D with nx:=Pv (i+1),ct:=Pv (i+1),bk:=D.nx } σ2 H2) (hd:∀σ H,Pv n σ H->D.nx σ H) :
    ∃W:Nat->Nat->St->Hp->Prop,(∃m,W 0 m σ H)/\∀i m σ H,W i m σ H ->
      ((Itr lo n).stop i H/\D.nx σ H)\/((Itr lo n).go i H/\∃N:St->Hp->Prop,(∀σ' H',N σ' H'->∃m',m'<m/\W (i+1) m' σ' H')/\∀x H',(Itr lo n).yld i H x H'->g x σ H' fun σ2 H2=>tb { D with nx:=N,ct:=N,bk:=D.nx } σ2 H2):=by
  refine⟨fun i m σ H=>m=n-i/\i<=n/\Pv i σ H,⟨n,by simp,ZE _,h0⟩,?_⟩
  rintro i m σ H ⟨rfl,hi,p⟩
  by_cases hlt:i<n
  . refine .inr ⟨hlt,Pv (i+1),fun σ' H' p'=>⟨n-(i+1),by omega,rfl,hlt,p'⟩,fun x H' y => ?_⟩
    obtain⟨e,y⟩:=y;subst e y;exact hs i σ _ hlt p
  . have e:i=n:=by omega
    subst e;exact .inl ⟨Zm _,hd σ H p⟩
end L2
namespace L2
open PySem PySem.Spec PyProof.Rows
abbrev R2:=V->V->Hp->VK->Prop
def OpR(X:Cx)(f:Value->Value->Sem Value)(r:R2):Prop :=
  ∀(pins:List (Addr×Obj)) (s:Shared) (σ:St) (H:Hp) (x y:V) (v u:Value) (Q:VK),Inv X pins σ H s->RelV x v->RelV y u->r x y H Q ->
    wpAny (model X.prog X.w) X.A (f v u) (EP X pins σ Q) X.xe s
def UnR(X:Cx)(f:Value->Sem Value)(r:V->Hp->VK->Prop):Prop :=
  ∀(pins:List (Addr×Obj)) (s:Shared) (σ:St) (H:Hp) (x:V) (v:Value) (Q:VK),Inv X pins σ H s->RelV x v->r x H Q ->
    wpAny (model X.prog X.w) X.A (f v) (EP X pins σ Q) X.xe s
def ve(X:Cx)(f:Value)(r:List V->Hp->VK->Prop):Prop :=
  ∀(pins:List (Addr×Obj)) (s:Shared) (σ:St) (H:Hp) (xs:List V) (us:List Value) (Q:VK),Inv X pins σ H s->Vals xs us->r xs H Q ->
    wpAny (model X.prog X.w) X.A (call f us) (EP X pins σ Q) X.xe s
def tOp(r:R2)(ta tb:TE):TE:=fun σ H Q=>ta σ H fun x H1=>tb σ H1 fun y H2=>r x y H2 Q
def tUn(r:V->Hp->VK->Prop)(ta:TE):TE:=fun σ H Q=>ta σ H fun x H1=>r x H1 Q
def rI(C:Int->Int->Prop)(g:Int->Int->V):R2:=fun x y H Q=>∃i j,x=.int i/\y=.int j/\C i j/\Q (g i j) H
def rI0(g:Int->Int->V):R2:=fun x y H Q=>∃i j,x=.int i/\y=.int j/\Q (g i j) H
def rU(g:Int->V):V->Hp->VK->Prop:=fun x H Q=>∃i,x=.int i/\Q (g i) H
section
variable{X:Cx}{a b c:Expr}{ta tb tc:TE}{pos:Pos}
theorem binT(ha:PE X a ta)(hb:PE X b tb){pins:List (Addr×Obj)}{s:Shared}{σ:St}{H:Hp}{R:V->V->Hp->Prop}(I:Inv X pins σ H s)
    (h:ta σ H fun x H1=>tb σ H1 fun y H2=>R x y H2) {Q:Value->Shared->Prop} {f:Value->Value->Sem Value}
    (hf:∀v u s2 x y H2,Inv X pins σ H2 s2->RelV x v->RelV y u->R x y H2->wpAny (model X.prog X.w) X.A (f v u) Q X.xe s2) :
    wpAny (model X.prog X.w) X.A (eval a X.env) (fun v s₁=>wpAny (model X.prog X.w) X.A (eval b X.env) (fun u s₂=>wpAny (model X.prog X.w) X.A (f v u) Q X.xe s₂) X.xe s₁) X.xe s:=by
  refine thn (ha pins s σ H _ I h) fun v s1 ⟨x,H1,I1,r1,q1⟩ => ?_
  refine thn (hb pins s1 σ H1 _ I1 q1) fun u s2 ⟨y,H2,I2,r2,q2⟩ => ?_
  exact hf v u s2 x y H2 I2 r1 r2 q2
theorem zl{op:Operator}{r:R2}(ho:OpR X (binaryOp op) r)(ha:PE X a ta)(hb:PE X b tb):PE X (.BinOp a op b pos) (tOp r ta tb):=by
  intro pins s σ H Q I h;exact wpAny_BinOp (binT ha hb I h fun v u s2 x y H2 I2 rx ry q=>ho pins s2 σ H2 x y v u Q I2 rx ry q)
theorem bx{op:UnaryOp}{r:V->Hp->VK->Prop}(ho:UnR X (unaryOp op) r)(ha:PE X a ta):PE X (.UnaryOp op a pos) (tUn r ta):=by
  intro pins s σ H Q I h;exact UnaryOp_ (thn (ha pins s σ H _ I h) fun v s1 ⟨x,H1,I1,r1,q1⟩=>ho pins s1 σ H1 x v Q I1 r1 q1)
theorem opI{f:Value->Value->Sem Value}{C:Int->Int->Prop}{g:Int->Int->Int}
    (rule:∀(i j:Int) (t u:Tok) (s:Shared) (Q:Value->Shared->Prop) (E:Value->Shared->Prop),C i j->Q (.int (g i j) s.toks) { s with toks:=s.toks+1 }->wpAny (model X.prog X.w) X.A (f (.int i t) (.int j u)) Q E s) :
    OpR X f (rI C fun i j=>.int (g i j)):=by
  intro pins s σ H x y v u Q I rx ry h;obtain⟨i,j,rfl,rfl,hc,q⟩:=h;obtain⟨t,rfl⟩:=rx;obtain⟨t',rfl⟩:=ry;exact rule i j t t' s _ _ hc ⟨.int (g i j),H,I.tok _,⟨_,rfl⟩,q⟩
theorem opI0{f:Value->Value->Sem Value}{g:Int->Int->Int}
    (rule:∀(i j:Int) (t u:Tok) (s:Shared) (Q:Value->Shared->Prop) (E:Value->Shared->Prop),Q (.int (g i j) s.toks) { s with toks:=s.toks+1 }->wpAny (model X.prog X.w) X.A (f (.int i t) (.int j u)) Q E s) :
    OpR X f (rI0 fun i j=>.int (g i j)):=by
  intro pins s σ H x y v u Q I rx ry h;obtain⟨i,j,rfl,rfl,q⟩:=h;obtain⟨t,rfl⟩:=rx;obtain⟨t',rfl⟩:=ry;exact rule i j t t' s _ _ ⟨.int (g i j),H,I.tok _,⟨_,rfl⟩,q⟩
theorem opB0{f:Value->Value->Sem Value}{g:Int->Int->Bool}
    (rule:∀(i j:Int) (t u:Tok) (s:Shared) (Q:Value->Shared->Prop) (E:Value->Shared->Prop),Q (.bool (g i j)) s->wpAny (model X.prog X.w) X.A (f (.int i t) (.int j u)) Q E s) :
    OpR X f (rI0 fun i j=>.bl (g i j)):=by
  intro pins s σ H x y v u Q I rx ry h;obtain⟨i,j,rfl,rfl,q⟩:=h;obtain⟨t,rfl⟩:=rx;obtain⟨t',rfl⟩:=ry;exact rule i j t t' s _ _ ⟨.bl (g i j),H,I,rfl,q⟩
def CDiv(i j:Int):Prop:=0<j/\j<1073741824
def CPow(i j:Int):Prop:=0<=j/\j<=1000000/\i.natAbs<2^64
def CMul(i j:Int):Prop:=(-(2^64)<i/\i<2^64)\/(-(2^64)<j/\j<2^64)
theorem CMul.ok{i j:Int}(h:CMul i j):IntMulOk i j:=by
  rcases h with ⟨h1,h2⟩ | ⟨h1,h2⟩
  . exact .of_left (intBits_le_64 h1 h2)
  . exact .of_right (intBits_le_64 h1 h2)
theorem yo:OpR X (binaryOp .Add) (rI0 fun i j=>.int (i+j)):=opI0 fun _ _ _ _ _ _ _ q=>add_int q
theorem uq:OpR X (binaryOp .Sub) (rI0 fun i j=>.int (i-j)):=opI0 fun _ _ _ _ _ _ _ q=>sub_int q
theorem qk:OpR X (binaryOp .Mult) (rI CMul fun i j=>.int (i*j)):=opI fun _ _ _ _ _ _ _ hc q=>mul_int q hc.ok
theorem wm:OpR X (binaryOp .FloorDiv) (rI CDiv fun i j=>.int (i/j)):=opI fun i j _ _ _ _ _ hc q=>by
  have h1:(0:Int)<j:=hc.1;have h2:j<1073741824:=hc.2;exact floordiv_int (by omega) (by rw[Int.fdiv_eq_ediv_of_nonneg i (by omega)];exact q) (.inl (PyProof.noPylong_small (by omega)))
theorem ym:OpR X (binaryOp .Mod) (rI (fun _ j=>0<j) fun i j=>.int (i % j)):=opI fun i j _ _ _ _ _ hc q=>by
  have h1:(0:Int)<j:=hc;exact mod_int' (by omega) (by rw[Int.fmod_eq_emod_of_nonneg i (by omega)];exact q)
theorem ip:OpR X (binaryOp .Pow) (rI CPow fun i j=>.int (i^j.toNat)):=opI fun _ _ _ _ _ _ _ hc q=>pow_int_small hc.1 hc.2.1 hc.2.2 q
theorem unI{f:Value->Sem Value}{g:Int->Int}
    (rule:∀(i:Int) (t:Tok) (s:Shared) (Q:Value->Shared->Prop) (E:Value->Shared->Prop),Q (.int (g i) s.toks) { s with toks:=s.toks+1 }->wpAny (model X.prog X.w) X.A (f (.int i t)) Q E s) :
    UnR X f (rU fun i=>.int (g i)):=by
  intro pins s σ H x v Q I rx h;obtain⟨i,rfl,q⟩:=h;obtain⟨t,rfl⟩:=rx;exact rule i t s _ _ ⟨.int (g i),H,I.tok _,⟨_,rfl⟩,q⟩
theorem fm:UnR X (unaryOp .USub) (rU fun i=>.int (-i)):=unI fun _ _ _ _ _ q=>neg_int q
end
def scal:V->V->Bool
  | .non,.non=>true | .non,.int _=>true | .int _,.non=>true | .non,.bl _=>true | .bl _,.non=>true | .non,.str _=>true | .str _,.non=>true
  | .int _,.int _=>true | .bl _,.bl _=>true | .str _,.str _=>true | .byt _,.byt _=>true
  | .int _,.str _=>true | .str _,.int _=>true | .bl _,.str _=>true | .str _,.bl _=>true
  | _,_=>false
def rEq:R2:=fun x y H Q=>scal x y=true/\Q (.bl (decide (x=y))) H
def rNe:R2:=fun x y H Q=>scal x y=true/\Q (.bl (!decide (x=y))) H
theorem zfj{i j:Int}:decide (V.int i=V.int j)=(i==j):=by
  rw[Bool.eq_iff_iff];simp
theorem zjo{i j:Bool}:decide (V.bl i=V.bl j)=(i==j):=by
  rw[Bool.eq_iff_iff];simp
theorem zep{i j:Str}:decide (V.str i=V.str j)=(i==j):=by
  rw[Bool.eq_iff_iff];simp
theorem zfg{i j:Array UInt8}:decide (V.byt i=V.byt j)=(i.toList==j.toList):=by
  rw[Bool.eq_iff_iff];cases i;cases j;simp
section
variable{X:Cx}{a b c:Expr}{ta tb tc:TE}{pos:Pos}
theorem yj{pins:List (Addr×Obj)}{σ:St}{H:Hp}{s:Shared}{Q:VK}{k k':Bool}(I:Inv X pins σ H s)(q:Q (.bl k) H)(e:k=k'):EP X pins σ Q (.bool k') s:=by
  subst e;exact⟨.bl k,H,I,rfl,q⟩
theorem pq:OpR X (compareOp .Eq) rEq:=by
  intro pins s σ H x y v u Q I rx ry h;obtain⟨hs,q⟩:=h
  cases x with
  | non =>
    cases rx
    cases y with
    | non=>cases ry;exact PySem.EqNone.eq_none_none (yj I q (by simp))
    | bl j=>cases ry;exact PySem.EqNone.eq_none_bool (yj I q (by simp))
    | int j=>obtain⟨t',rfl⟩:=ry;exact PySem.EqNone.eq_none_int (yj I q (by simp))
    | str j=>obtain⟨t',rfl⟩:=ry;exact PySem.EqNone.eq_none_str (yj I q (by simp))
    | _=>exact absurd (show false=true from hs) Bool.false_ne_true
  | bl i =>
    cases rx
    cases y with
    | non=>cases ry;exact PySem.EqNone.eq_bool_none (yj I q (by simp))
    | bl j=>cases ry;exact eq_bool (yj I q zjo)
    | str j=>obtain⟨t',rfl⟩:=ry;exact PySem.EqMixed.eq_bool_str (yj I q (by simp))
    | _=>exact absurd (show false=true from hs) Bool.false_ne_true
  | int i =>
    obtain⟨t,rfl⟩:=rx
    cases y with
    | non=>cases ry;exact PySem.EqNone.eq_int_none (yj I q (by simp))
    | int j=>obtain⟨t',rfl⟩:=ry;exact eq_int (yj I q zfj)
    | str j=>obtain⟨t',rfl⟩:=ry;exact PySem.EqMixed.eq_int_str (yj I q (by simp))
    | _=>exact absurd (show false=true from hs) Bool.false_ne_true
  | str i =>
    obtain⟨t,rfl⟩:=rx
    cases y with
    | non=>cases ry;exact PySem.EqNone.eq_str_none (yj I q (by simp))
    | bl j=>cases ry;exact PySem.EqMixed.eq_str_bool (yj I q (by simp))
    | int j=>obtain⟨t',rfl⟩:=ry;exact PySem.EqMixed.eq_str_int (yj I q (by simp))
    | str j=>obtain⟨t',rfl⟩:=ry;exact eq_str (yj I q zep)
    | _=>exact absurd (show false=true from hs) Bool.false_ne_true
  | byt i =>
    obtain⟨t,rfl⟩:=rx
    cases y with
    | byt j=>obtain⟨t',rfl⟩:=ry;exact PySem.W.eq_bytes (yj I q zfg)
    | _=>exact absurd (show false=true from hs) Bool.false_ne_true
  | _=>cases y <;> exact absurd (show false=true from hs) Bool.false_ne_true
theorem db:OpR X (compareOp .NotEq) rNe:=by
  intro pins s σ H x y v u Q I rx ry h;obtain⟨hs,q⟩:=h
  cases x with
  | non =>
    cases rx
    cases y with
    | non=>cases ry;exact PySem.EqNone.ne_none_none (yj I q (by simp))
    | bl j=>cases ry;exact PySem.EqNone.ne_none_bool (yj I q (by simp))
    | int j=>obtain⟨t',rfl⟩:=ry;exact PySem.EqNone.ne_none_int (yj I q (by simp))
    | str j=>obtain⟨t',rfl⟩:=ry;exact PySem.EqNone.ne_none_str (yj I q (by simp))
    | _=>exact absurd (show false=true from hs) Bool.false_ne_true
  | bl i =>
    cases rx
    cases y with
    | non=>cases ry;exact PySem.EqNone.ne_bool_none (yj I q (by simp))
    | bl j=>cases ry;exact ne_bool (yj I q (congrArg not zjo))
    | str j=>obtain⟨t',rfl⟩:=ry;exact PySem.EqMixed.ne_bool_str (yj I q (by simp))
    | _=>exact absurd (show false=true from hs) Bool.false_ne_true
  | int i =>
    obtain⟨t,rfl⟩:=rx
    cases y with
    | non=>cases ry;exact PySem.EqNone.ne_int_none (yj I q (by simp))
    | int j=>obtain⟨t',rfl⟩:=ry;exact ne_int (yj I q (congrArg not zfj))
    | str j=>obtain⟨t',rfl⟩:=ry;exact PySem.EqMixed.ne_int_str (yj I q (by simp))
    | _=>exact absurd (show false=true from hs) Bool.false_ne_true
  | str i =>
    obtain⟨t,rfl⟩:=rx
    cases y with
    | non=>cases ry;exact PySem.EqNone.ne_str_none (yj I q (by simp))
    | bl j=>cases ry;exact PySem.EqMixed.ne_str_bool (yj I q (by simp))
    | int j=>obtain⟨t',rfl⟩:=ry;exact PySem.EqMixed.ne_str_int (yj I q (by simp))
    | str j=>obtain⟨t',rfl⟩:=ry;exact ne_str (yj I q (congrArg not zep))
    | _=>exact absurd (show false=true from hs) Bool.false_ne_true
  | byt i =>
    obtain⟨t,rfl⟩:=rx
    cases y with
    | byt j=>obtain⟨t',rfl⟩:=ry;exact PySem.W.ne_bytes (yj I q (congrArg not zfg))
    | _=>exact absurd (show false=true from hs) Bool.false_ne_true
  | _=>cases y <;> exact absurd (show false=true from hs) Bool.false_ne_true
theorem zag:OpR X (compareOp .Lt) (rI0 fun i j=>.bl (decide (i<j))):=opB0 fun _ _ _ _ _ _ _ q=>lt_int q
theorem aa:OpR X (compareOp .LtE) (rI0 fun i j=>.bl (decide (i<=j))):=opB0 fun _ _ _ _ _ _ _ q=>le_int q
theorem zfy:OpR X (compareOp .Gt) (rI0 fun i j=>.bl (decide (j<i))):=opB0 fun _ _ _ _ _ _ _ q=>gt_int q
theorem op_isN:OpR X (compareOp .Is) (fun x y H Q=>y=.non/\Q (.bl (decide (x=.non))) H):=by
  intro pins s σ H x y v u Q I rx ry h;obtain⟨rfl,q⟩:=h;cases ry;refine is_none_gen (yj I q ?_)
  cases x <;> first
    | (cases rx;rfl)
    | (obtain⟨t,rfl⟩:=rx;rfl)
theorem za2:OpR X (compareOp .IsNot) (fun x y H Q=>y=.non/\Q (.bl (!decide (x=.non))) H):=by
  intro pins s σ H x y v u Q I rx ry h;obtain⟨rfl,q⟩:=h;cases ry;refine isnot_none_gen (yj I q ?_)
  cases x <;> first
    | (cases rx;rfl)
    | (obtain⟨t,rfl⟩:=rx;rfl)
theorem yt(b:Expr){op:CmpOp}(h:op≠.In:=by decide)(h2:op≠.NotIn:=by decide):behindInMarks op b=false:=by
  have e1:(op==CmpOp.In)=false:=by cases op <;> first | rfl | exact absurd rfl h
  have e2:(op==CmpOp.NotIn)=false:=by cases op <;> first | rfl | exact absurd rfl h2
  cases b <;> simp[behindInMarks,e1,e2]
theorem ld{op:CmpOp}{r:R2}(ho:OpR X (compareOp op) r)(ha:PE X a ta)(hb:PE X b tb)(hm:behindInMarks op b=false):PE X (.Compare a [op] [b] pos) (tOp r ta tb):=by
  intro pins s σ H Q I h;exact wpAny_Compare1 (binT ha hb I h fun v u s2 x y H2 I2 rx ry q=>ho pins s2 σ H2 x y v u Q I2 rx ry q) hm
def zgn(t:TE):TT:=fun σ H Q=>t σ H fun x H'=>∃k,x=.bl k/\Q k H'
theorem yn{op:CmpOp}{r:R2}(ho:OpR X (compareOp op) r)(ha:PE X a ta)(hb:PE X b tb)(hm:behindInMarks op b=false):PT X (.Compare a [op] [b] pos) (zgn (tOp r ta tb)):=by
  intro pins s σ H Q I h
  refine wpAny_isTrue_Compare1 (thn (ha pins s σ H _ I h) fun v s1 ⟨x,H1,I1,r1,q1⟩=>thn (hb pins s1 σ H1 _ I1 q1) fun u s2 ⟨y,H2,I2,r2,q2⟩ =>
    thn (ho pins s2 σ H2 x y v u _ I2 r1 r2 q2) fun c s3 ⟨z,H3,I3,r3,k,e,q3⟩ => ?_) hm
  subst e;cases r3;exact wpAny_truthy_bool ⟨H3,I3,q3⟩
def zdp(r r':R2)(ta tb tc:TE):TE:=fun σ H Q=>ta σ H fun x H1=>tb σ H1 fun y H2=>r x y H2 fun z H3=>∃k,z=.bl k /\
  (if k=true then tc σ H3 fun w' H4=>r' y w' H4 Q else Q (.bl false) H3)
theorem zki{op op':CmpOp}{r r':R2}(ho:OpR X (compareOp op) r)(ho':OpR X (compareOp op') r')(ha:PE X a ta)(hb:PE X b tb)(hc:PE X c tc)
    (hm:lastMarks [op,op'] [b,c]=false:=by with_unfolding_all rfl):PE X (.Compare a [op,op'] [b,c] pos) (zdp r r' ta tb tc):=by
  intro pins s σ H Q I h
  refine Compare_chain (thn (ha pins s σ H _ I h) fun v s1 ⟨x,H1,I1,r1,q1⟩=>chain_link (thn (hb pins s1 σ H1 _ I1 q1) fun u s2 ⟨y,H2,I2,r2,q2⟩ =>
    thn (ho pins s2 σ H2 x y v u _ I2 r1 r2 q2) fun d s3 ⟨z,H3,I3,r3,k,e,q3⟩ => ?_)) hm
  subst e;cases r3;refine wpAny_truthy_bool ?_
  cases k with
  | false=>exact ite_ff ⟨.bl false,H3,I3,rfl,q3⟩
  | true=>exact ite_tt (chain_last (thn (hc pins s3 σ H3 _ I3 q3) fun w' s4 ⟨z',H4,I4,r4,q4⟩=>ho' pins s4 σ H4 y z' u w' Q I4 r2 r4 q4))
theorem zc7{op op':CmpOp}{r r':R2}(ho:OpR X (compareOp op) r)(ho':OpR X (compareOp op') r')(ha:PE X a ta)(hb:PE X b tb)(hc:PE X c tc)
    (hm:lastMarks [op,op'] [b,c]=false:=by with_unfolding_all rfl):PT X (.Compare a [op,op'] [b,c] pos) (zgn (zdp r r' ta tb tc)):=by
  intro pins s σ H Q I h
  refine isTrue_chain (thn (ha pins s σ H _ I h) fun v s1 ⟨x,H1,I1,r1,q1⟩=>test_link (thn (hb pins s1 σ H1 _ I1 q1) fun u s2 ⟨y,H2,I2,r2,q2⟩ =>
    thn (ho pins s2 σ H2 x y v u _ I2 r1 r2 q2) fun d s3 ⟨z,H3,I3,r3,k,e,q3⟩ => ?_)) hm
  subst e;cases r3;refine wpAny_truthy_bool ?_
  cases k with
  | false =>
    obtain⟨k',e',q'⟩:=q3;cases e';exact ite_ff ⟨H3,I3,q'⟩
  | true =>
    refine ite_tt (test_last (thn (hc pins s3 σ H3 _ I3 q3) fun w' s4 ⟨z',H4,I4,r4,q4⟩=>thn (ho' pins s4 σ H4 y z' u w' _ I4 r2 r4 q4) fun d' s5 ⟨z2,H5,I5,r5,k2,e2,q5⟩ => ?_));subst e2;cases r5;exact wpAny_truthy_bool ⟨H5,I5,q5⟩
theorem l5:(sizeLine:Nat)<2^63:=by rw[sizeLine_eq];decide
theorem bv:OpR X (binaryOp .Add) (fun x y H Q=>∃i j,x=.str i/\y=.str j/\i.length+j.length<=sizeLine/\Q (.str (i++j)) H):=by
  intro pins s σ H x y v u Q I rx ry h;obtain⟨i,j,rfl,rfl,hz,q⟩:=h;obtain⟨t,rfl⟩:=rx;obtain⟨t',rfl⟩:=ry;exact add_str (fun t' tk=>⟨.str (i++j),H,I.tok _,⟨_,rfl⟩,q⟩) hz
theorem tz{x:V}{us:List Value}(r:Vals [x] us):∃u,us=[u]/\RelV x u:=by
  cases r with
  | cons r1 r2=>cases r2;exact⟨_,rfl,r1⟩
theorem vals2{x y:V}{us:List Value}(r:Vals [x,y] us):∃u w',us=[u,w']/\RelV x u/\RelV y w':=by
  cases r with
  | cons r1 r2 =>
    cases r2 with
    | cons r3 r4=>cases r4;exact⟨_,_,rfl,r1,r3⟩
theorem zj4:ve X (.builtin "abs") (fun xs H Q=>∃i,xs=[.int i]/\Q (.int (if i<0 then -i else i)) H):=by
  intro pins s σ H xs us Q I r h;obtain⟨i,rfl,q⟩:=h;obtain⟨u,rfl,t,rfl⟩:=tz r;exact call_abs_int fun u tk=>⟨.int (if i<0 then -i else i),H,I.tok _,⟨_,rfl⟩,q⟩
theorem zi8(hc:X.calm=true):ve X (.builtin "max") (fun xs H Q=>∃i j,xs=[.int i,.int j]/\Q (.int (if j > i then j else i)) H):=by
  intro pins s σ H xs us Q I r h;obtain⟨i,j,rfl,q⟩:=h;obtain⟨u,w',rfl,⟨t,rfl⟩,⟨t',rfl⟩⟩:=vals2 r;refine max_two_ints (I.ok.hd hc) fun h' tk k=>⟨_,H,I.kept k,?_,q⟩
  by_cases hj:j > i
  . rw[if_pos hj,if_pos hj];exact⟨_,rfl⟩
  . rw[if_neg hj,if_neg hj];exact⟨_,rfl⟩
theorem ziv(hc:X.calm=true):ve X (.builtin "min") (fun xs H Q=>∃i j,xs=[.int i,.int j]/\Q (.int (if j<i then j else i)) H):=by
  intro pins s σ H xs us Q I r h;obtain⟨i,j,rfl,q⟩:=h;obtain⟨u,w',rfl,⟨t,rfl⟩,⟨t',rfl⟩⟩:=vals2 r;refine min_two_ints (I.ok.hd hc) fun h' tk k=>⟨_,H,I.kept k,?_,q⟩
  by_cases hj:j<i
  . rw[if_pos hj,if_pos hj];exact⟨_,rfl⟩
  . rw[if_neg hj,if_neg hj];exact⟨_,rfl⟩
theorem zhp:ve X (.type "int") (fun xs H Q=>(∃i,xs=[.int i]/\Q (.int i) H)\/∃k,xs=[.bl k]/\Q (.int (if k then 1 else 0)) H):=by
  intro pins s σ H xs us Q I r h
  rcases h with ⟨i,rfl,q⟩ | ⟨k,rfl,q⟩
  . obtain⟨u,rfl,t,rfl⟩:=tz r
    exact call_int_int ⟨.int i,H,I,⟨_,rfl⟩,q⟩
  . obtain⟨u,rfl,r1⟩:=tz r
    cases r1;exact call_int_bool ⟨.int (if k then 1 else 0),H,I.tok _,⟨_,rfl⟩,q⟩
end
end L2
namespace L2
open PySem PySem.Spec PyProof.Rows
structure ObjM(h:Heap)(x dx C:Addr)(mA:Str->Option Value):Prop where
  obj:h.get? x=some (PySem.W.instObj C dx)
  ns:h.Ns1 dx mA
  ne:dx≠x
theorem zjt{h:Heap}{dx:Addr}{mA:Str->Option Value}(n:h.Ns1 dx mA):∃od,h.get? dx=some od/\∀name,PySem.W.lookIn name od=some (mA name):=by
  obtain⟨o,es,ep,ho,hd,hk,_,hm⟩:=n;refine⟨o,ho,fun name => ?_⟩;have e:=hm name;unfold nsFind findBy at e;rw[<-Array.find?_toList]at e;unfold PySem.W.lookIn;rw[hd];dsimp only
  split
  . rename_i y q
    rw[q]at e;exact congrArg some e
  . rename_i q
    rw[q]at e
    have a:es.toList.any (·.refKey)=false:=by
      rw[List.any_eq_false];intro y hy;obtain⟨z,t,hkey⟩:=hk y (Array.mem_toList_iff.mp hy);simp[DictEntry.refKey,hkey]
    have a':¬es.toList.any (·.refKey)=true:=by rw[a];exact Bool.false_ne_true
    rw[if_neg a'];exact congrArg some e
theorem ObjM.look{h:Heap}{x dx C:Addr}{mA:Str->Option Value}(I:ObjM h x dx C mA):∃od,PySem.W.InstAt h x (PySem.W.instObj C dx) C (some od)/\∀name,PySem.W.lookIn name od=some (mA name) :=
  let ⟨od,ho,hl⟩:=zjt I.ns
  ⟨od,⟨I.obj,rfl,rfl,ho⟩,hl⟩
section
variable{prog:Program}{w:World}{A:Around}{E:Value->Shared->Prop}{s:Shared}{K:Fg}{x dx C f:Addr}{mA:Str->Option Value}{name:Str}{v:Value}
end
theorem RelO.some_of{v:V}{o:Option Value}(r:RelO (some v) o):∃u,o=some u/\RelV v u:=by
  cases o with
  | none=>exact(show False from r).elim
  | some u=>exact⟨u,rfl,r⟩
section
variable{P:Program}{w:World}{H H':Hp}{h h':Heap}{a C dx:Addr}{fs fs':List (Str×V)}
theorem zl8(hok:HOk P w H h)(e:H a=some (.ins C dx fs)):∃mA,ObjM h a dx C mA/\(∀f,RelO (fs.lookup f) (mA f))/\PySem.Within mA (fs.map (·.1))/\fs.length<=1000/\H dx=some (.own a):=by
  obtain⟨d,z,ne,ob,mA,n,r,q⟩:=(show ObjOk P w H h a (.ins C dx fs) from hok a _ e);exact⟨mA,⟨ob,n,ne⟩,r,q,z,d⟩
end
structure Cls(K:Fg)(C:Addr):Prop where
  pg:PySem.W.plainGet K C Str.empty=true
  hd:PySem.W.hasDictIn K C=true
  po:PySem.W.plainOver K C=true
  sa:PySem.W.findIn K (.ref C) "__setattr__" = some (some (.builtin "object.__setattr__"))
theorem Cls.get{K:Fg}{C:Addr}(c:Cls K C)(f:Str):PySem.W.plainGet K C f=true:=c.pg
section
variable{X:Cx}{pins:List (Addr×Obj)}{σ:St}{H:Hp}{s:Shared}{a C dx:Addr}{fs:List (Str×V)}{f:Str}{v:V}{A:Around}{E:Value->Shared->Prop}
end
section
variable{X:Cx}{o e value:Expr}{f:Str}{pos pos' tpos:Pos}{ta tv:TE}
end
section
variable{X:Cx}{pins:List (Addr×Obj)}{σ:St}{H:Hp}{s:Shared}{A:Around}{E:Value->Shared->Prop}{Q:Value->Shared->Prop}{c:Value}{b:Bool}
inductive TyOf (K:Fg) (H:Hp):V->Value->Prop where
  | non:TyOf K H .non (.type "NoneType")
  | bl (x:Bool):TyOf K H (.bl x) (.type "bool")
  | int (i:Int):TyOf K H (.int i) (.type "int")
  | str (x:Str):TyOf K H (.str x) (.type "str")
  | flt (x:UInt64):TyOf K H (.flt x) (.type "float")
  | lst {a:Addr} {xs:List V} (e:H a=some (.lst xs)):TyOf K H (.ref a) (.type "list")
  | frz {a:Addr} {o:Obj} {xs:List V} (e:H a=some (.frz o (.lst xs))):TyOf K H (.ref a) (.type "list")
  | tup {a:Addr} {xs:List V} (e:H a=some (.tup xs)):TyOf K H (.ref a) (.type "tuple")
  | dK {a:Addr} {kvs:List (Key×V)} (e:H a=some (.dK kvs)):TyOf K H (.ref a) (.type "dict")
  | dT {a:Addr} {kvs:List (List Key×V)} (e:H a=some (.dT kvs)):TyOf K H (.ref a) (.type "dict")
  | ins {a C dx:Addr} {fs:List (Str×V)} (e:H a=some (.ins C dx fs)) (cl:Cls K C) (ha:PySem.W.findIn K (.ref C) "__class__" = some (some (.builtin "object.__class__")))
      (hn:PySem.W.specialIn K (.builtin "object.__class__") "__get__" = some (some (.builtin "getset_descriptor.__get__"))) (htk:PySem.W.takesIn K (.builtin "object.__class__")=some true)
      (hm:PySem.W.mroIn K C (.type "object")=some true):TyOf K H (.ref a) (.ref C)
theorem zhl{x:V}{u t:Value}(I:Inv X pins σ H s)(rx:RelV x u)(ty:TyOf X.K H x t)(e:PySem.W.kitOne X.K t c=some b)(h:∀tk,Q (.bool b) { s with toks:=tk }) :
    wpAny (model X.prog X.w) A (call (.builtin "isinstance") [u,c]) Q E s:=by
  cases ty with
  | non=>cases (show u=Value.none from rx);exact PySem.W.kia_one PySem.W.kitx_none I.kIn True.intro e (fun z=>nomatch z) h
  | bl y=>cases (show u=Value.bool y from rx);exact PySem.W.kia_one PySem.W.kitx_bool I.kIn True.intro e (fun z=>nomatch z) h
  | int i=>obtain⟨t,q⟩:=(show ∃t,u=Value.int i t from rx);cases q;exact PySem.W.kia_one PySem.W.kitx_int I.kIn True.intro e (fun z=>nomatch z) h
  | str y=>obtain⟨t,q⟩:=(show ∃t,u=Value.str y t from rx);cases q;exact PySem.W.kia_one PySem.W.kitx_str I.kIn True.intro e (fun z=>nomatch z) h
  | flt y=>obtain⟨t,q⟩:=(show ∃t,u=Value.float y t from rx);cases q;exact PySem.W.kia_one PySem.W.kitx_float I.kIn True.intro e (fun z=>nomatch z) h
  | @lst a xs ea =>
    cases (show u=Value.ref a from rx);obtain⟨_,_,n,_,h1⟩:=(show ObjOk X.prog X.w H s.heap a (.lst xs) from I.hok a _ ea);exact PySem.W.kia_one PySem.W.kitx_list I.kIn ⟨_,h1,rfl⟩ e (fun z=>nomatch z) h
  | @frz a ob xs ea =>
    cases (show u=Value.ref a from rx);obtain⟨_,_,_,n,_,h1⟩:=(show ObjOk X.prog X.w H s.heap a (.frz ob (.lst xs)) from I.hok a _ ea);exact PySem.W.kia_one PySem.W.kitx_list I.kIn ⟨_,h1,rfl⟩ e (fun z=>nomatch z) h
  | @tup a xs ea =>
    cases (show u=Value.ref a from rx);obtain⟨_,_,_,p⟩:=(show ObjOk X.prog X.w H s.heap a (.tup xs) from I.hok a _ ea);obtain⟨o,h1,h2,_⟩:=p;exact PySem.W.kia_one PySem.W.kitx_tuple I.kIn ⟨o,h1,h2⟩ e (fun z=>nomatch z) h
  | @dK a kvs ea =>
    cases (show u=Value.ref a from rx);obtain⟨_,_,vs,_,p⟩:=(show ObjOk X.prog X.w H s.heap a (.dK kvs) from I.hok a _ ea);obtain⟨o,es,ep,h1,h2,_⟩:=p;exact PySem.W.kia_one PySem.W.kitx_dict I.kIn ⟨o,h1,h2.1⟩ e (fun z=>nomatch z) h
  | @dT a kvs ea =>
    cases (show u=Value.ref a from rx);obtain⟨_,_,xs,_,o,es,ep,h1,h2,_⟩:=(show ObjOk X.prog X.w H s.heap a (.dT kvs) from I.hok a _ ea);exact PySem.W.kia_one PySem.W.kitx_dict I.kIn ⟨o,h1,h2.1⟩ e (fun z=>nomatch z) h
  | @ins a C dx fs ea cl ha hn htk hm =>
    cases (show u=Value.ref a from rx);obtain⟨mA,O,_⟩:=zl8 I.hok ea;obtain⟨od,J,_⟩:=O.look;exact PySem.W.kia_one (PySem.W.kitx_own (cl.get _) cl.hd ha hn htk hm) I.kIn J e (fun z=>nomatch z) h
end
end L2
namespace L2
open PySem PySem.Spec PyProof.Rows
structure Room(k:Nat)(A:Around):Prop where
  hd:A.handled=none
  dp:A.depth+3*k+5<recursionLimit
  un:A.units+16*k+200<cLine
theorem Room.mono{j k:Nat}{A:Around}(r:Room k A)(h:j<=k):Room j A:=⟨r.hd,by have:=r.dp;omega,by have:=r.un;omega⟩
theorem Room.deeper{k:Nat}{A:Around}(r:Room (k+1) A)(env:Env):Room k (A.deeper env) :=
  ⟨r.hd,by have:=r.dp;show A.depth+1+3*k+5<_;omega,by have:=r.un;show A.units+3+16*k+200<_;omega⟩
theorem Room.in1{k:Nat}{A:Around}(r:Room (k+1) A):Room k A.in1 :=
  ⟨r.hd,by have:=r.dp;show A.depth+3*k+5<_;omega,by have:=r.un;show A.units+1+16*k+200<_;omega⟩
theorem Room.depth{k:Nat}{A:Around}(r:Room k A):A.depth<recursionLimit:=by have:=r.dp;omega
def tNil:TA:=fun _ H Q=>Q [] H
def zfz(ta:TE)(tr:TA):TA:=fun σ H Q=>ta σ H fun x H1=>tr σ H1 fun xs H2=>Q (x::xs) H2
section
variable{X:Cx}{e:Expr}{es:List Expr}{te:TE}{t:TA}{pos:Pos}
theorem zb:PA X [] tNil:=fun _ _ _ _ H Q I h=>Calls.spliced_nil ⟨[],H,I,.nil,h⟩
theorem za(ha:PE X e te)(hr:PA X es t)(hs:starEach (e::es) X.env=(false,eval e X.env)::starEach es X.env:=by rfl):PA X (e::es) (zfz te t):=by
  intro pos pins s σ H Q I h;rw[hs]
  show wpAny _ _ (spliced ((false,eval e X.env)::backTo pos (starEach es X.env))) _ _ s
  refine Calls.spliced_cons (thn (ha pins s σ H _ I h) fun u s1 ⟨x,H1,I1,r1,q1⟩ => ?_);exact thn (hr pos pins s1 σ H1 _ I1 q1) fun us s2 ⟨xs,H2,I2,r2,q2⟩=>⟨x::xs,H2,I2,.cons r1 r2,q2⟩
def tTup(t:TA):TE:=fun σ H Q=>t σ H fun xs H1=>xs.length<=sizeLine/\∀p,H1 p=none->Q (.ref p) (upd H1 p (.tup xs))
def tLst(t:TA):TE:=fun σ H Q=>t σ H fun xs H1=>xs.length<=sizeLine/\∀p,H1 p=none->Q (.ref p) (upd H1 p (.lst xs))
theorem wg{x1}(h:PA X es t):PE X (.Tuple es x1 pos) (tTup t):=by
  intro pins s σ H Q I hq;refine wpAny_Tuple_spliced (thn (h pos pins s σ H _ I hq) fun us s1 ⟨xs,H1,I1,r,z,q⟩=>⟨by rw[<-r.length];exact z,?_⟩);have hf:H1 s1.heap.objs.size=none:=I1.hok.fresh (Zm _);refine⟨.ref s1.heap.objs.size,upd H1 s1.heap.objs.size (.tup xs),I1.laid (t':=s1.toks) (fun b u e=>Heap.get?_push_of_some _ e) (Zm _) ?_,rfl,q _ hf⟩;exact⟨z,us,r,⟨_,Heap.get?_push_size _ rfl,rfl,_,rfl,rfl⟩⟩
theorem w9(h:PA X es t):PE X (.List es pos) (tLst t):=by
  intro pins s σ H Q I hq;refine wpAny_List_spliced (thn (h pos pins s σ H _ I hq) fun us s1 ⟨xs,H1,I1,r,z,q⟩=>⟨by rw[<-r.length];exact z,?_⟩);have hf:H1 s1.heap.objs.size=none:=I1.hok.fresh (Zm _);refine⟨.ref s1.heap.objs.size,upd H1 s1.heap.objs.size (.lst xs),I1.laid (t':=s1.toks) (fun b u e=>Heap.get?_push_of_some _ e) (Zm _) ?_,rfl,q _ hf⟩;exact⟨z,us,0,r,Heap.get?_push_size _ rfl⟩
end
abbrev Sp:=List V->Hp->VK->XK->Prop
abbrev CXT:=List Env->Hp->Shared->XK->Value->Shared->Prop
structure Env0(P:Program)(w:World)(K:Fg)(mg:Str->Option Value)(base:Heap)(A:Around)(outer:List Env)(s:Shared)(H:Hp):Prop where
  frames:A.frames=some outer
  mod:Mod K mg base
  bs:∀b o,base.get? b=some o->s.heap.get? b=some o/\H b=none
  bsz:base.objs.size<=s.heap.objs.size
  funs:s.heap.FunFrames base outer
  frf:∀b∈frs outer,H b=none
  hok:HOk P w H s.heap
  bare:AllBare s.gens
def CE(outer:List Env)(P:Program)(w:World)(H:Hp)(s:Shared)(Q:VK)(u:Value)(s':Shared):Prop :=
  ∃v H',s'.os=s.os/\AllBare s'.gens/\Un (frs outer) [] H H' s.heap s'.heap/\HOk P w H' s'.heap/\RelV v u/\Q v H'
def CR(CX:CXT)(outer:List Env)(P:Program)(w:World)(H:Hp)(s:Shared)(Q:VK)(E:XK)(r:Result)(s':Shared):Prop :=
  match r with
  | .ok (.ret u)=>CE outer P w H s Q u s'
  | .ok _=>False
  | .error e=>CX outer H s E e s'
structure FnOk(P:Program)(w:World)(K:Fg)(mg:Str->Option Value)(base:Heap)(CX:CXT)(k:Nat)(f:Addr)(fd:FuncData)(ps:List Str)(sp:Sp):Prop where
  len:∀vs H Q E,sp vs H Q E->vs.length=ps.length
  run:∀(A:Around) (outer:List Env) (s:Shared) (H:Hp) (args:Args) (us:List Value) (vs:List V) (Q:VK) (E:XK),Room k A->Env0 P w K mg base A outer s H->BindsTo s fd args (ps.zip us)->Vals vs us->sp vs H Q E ->
    codeAny (model P w) A (.call (.ref f) args) (CR CX outer P w H s Q E) s
theorem Env0.in1{P:Program}{w:World}{K:Fg}{mg:Str->Option Value}{base:Heap}{A:Around}{outer:List Env}{s:Shared}{H:Hp}(e:Env0 P w K mg base A outer s H) :
    Env0 P w K mg base A.in1 outer s H:=⟨e.frames,e.mod,e.bs,e.bsz,e.funs,e.frf,e.hok,e.bare⟩
section
variable{X:Cx}{pins:List (Addr×Obj)}{σ:St}{H:Hp}{s s':Shared}
theorem Inv.env0(I:Inv X pins σ H s):Env0 X.prog X.w X.K X.mg X.base X.A X.stack s H :=
  ⟨I.ok.frames,I.ok.mod,I.bs,Zd I.ok.bsz I.sz,I.stack,I.stkFree,I.hok,I.bare⟩
theorem Inv.after{Q:VK}{u:Value}(I:Inv X pins σ H s)(h:CE X.stack X.prog X.w H s Q u s'):EP X pins σ Q u s':=by
  obtain⟨v,H',os,bare,un,hok,r,q⟩:=h;obtain⟨hh,g,d,t,os'⟩:=s';obtain rfl:os'=s.os:=os;exact⟨v,H',I.call (h':=hh) (g':=g) (d':=d) (t':=t) (ch:=[]) un hok bare (fun b z=>absurd z (by simp)),r,q⟩
end
def zb3(sp:Sp)(dvs:List V)(E:XK)(t:TA):TE:=fun σ H Q=>t σ H fun vs H1=>sp (vs++dvs) H1 Q E
def Binds(K:Fg)(fd:FuncData)(ps:List Str)(ds:List Value):Prop :=
  ∀(s:Shared) (us:List Value),K.In s.heap->(us++ds).length=ps.length->BindsTo s fd ⟨us,[]⟩ (ps.zip (us++ds))
theorem Binds.all{K:Fg}{fd:FuncData}{ps:List Str}(h:∀us:List Value,us.length=ps.length->bindArgs fd ⟨us,[]⟩=pure (ps.zip us)):Binds K fd ps []:=fun s us _ hl=>by
  rw[Ye]at hl ⊢;exact .of_eq (h us hl)
def fv(CX:CXT)(X:Cx)(E:XK):Prop:=∀(pins:List (Addr×Obj)) (σ:St) (H:Hp) (s:Shared) (e:Value) (s':Shared),Inv X pins σ H s->CX X.stack H s E e s'->X.xe e s'
section
variable{X:Cx}{CX:CXT}{k:Nat}{f C:Addr}{fd:FuncData}{ps:List Str}{sp:Sp}{dvs:List V}{ds:List Value}{E:XK}{x m:Str}{p pos apos:Pos}{e o:Expr}{es:List Expr}{ta:TE}{t:TA}
theorem run_fn{pins:List (Addr×Obj)}{σ:St}{H:Hp}{s:Shared}{Q:VK}{us:List Value}{vs:List V}(F:FnOk X.prog X.w X.K X.mg X.base CX k f fd ps sp)(hr:Room k X.A)(hb:Binds X.K fd ps ds)(hd:Vals dvs ds)(hx:fv CX X E)
    (I:Inv X pins σ H s) (r:Vals vs us) (h:sp (vs++dvs) H Q E):wpAny (model X.prog X.w) X.A (call (.ref f) us) (EP X pins σ Q) X.xe s:=by
  have r2:Vals (vs++dvs) (us++ds):=r.append hd;have hl:(us++ds).length=ps.length:=by rw[<-r2.length];exact F.len _ _ _ _ h
  refine wpAny_call (codeAny_mono (F.run X.A X.stack s H ⟨us,[]⟩ (us++ds) (vs++dvs) Q E hr I.env0 (hb s us I.kIn hl) r2 h) fun r s' hq => ?_)
  cases r with
  | error e=>exact hx pins σ H s e s' I hq
  | ok fl =>
    cases fl with
    | ret u=>exact I.after hq
    | next=>exact False.elim hq
    | brk=>exact False.elim hq
    | cont=>exact False.elim hq
theorem ze6(F:FnOk X.prog X.w X.K X.mg X.base CX k f fd ps sp)(hr:Room k X.A)(hg:Gl X x)(hm:X.mg x=some (.ref f))(hk:PySem.W.keepIn X.K (.ref f)=true)(hb:Binds X.K fd ps ds)(hd:Vals dvs ds)(hx:fv CX X E)
    (ha:PA X (e::es) t) (hdb:(x==("__debug__" : Str))=false:=by decide) (he:starEach (e::es) X.env=(false,eval e X.env)::starEach es X.env:=by rfl) (hpl:(backTo pos (starEach es X.env)).any (·.1)=false:=by rfl) :
    PE X (.Call (.Name x p) (e::es) [] pos) (zb3 sp dvs E t):=by
  intro pins s σ H Q I h;refine wpAny_Call_Name_kw (il I hg hm ?_ hdb);refine PySem.W.callWith_K (h₀:=X.base) I.ok.mod.kin hk (thn (ha pos pins s σ H _ I h) fun us s1 ⟨vs,H1,I1,r,q⟩=>⟨I1.kIn,?_⟩) he hpl;exact run_fn F hr hb hd hx I1 r q
end
def PK(X:Cx)(kws:List Keyword)(t:TA):Prop :=
  ∀(pos:Pos) (pins:List (Addr×Obj)) (s:Shared) (σ:St) (H:Hp) (Q:List V->Hp->Prop),Inv X pins σ H s->t σ H Q->wpAny (model X.prog X.w) X.A (evalAll ((backToKw pos (keywordEach kws X.env)).map (·.2))) (AP X pins σ Q) X.xe s
section
variable{X:Cx}{CX:CXT}{k:Nat}{f C:Addr}{fd:FuncData}{ps ks:List Str}{sp:Sp}{E:XK}{x m:Str}{p pos apos kpos:Pos}{e o:Expr}{es:List Expr}{kws:List Keyword}{te ta:TE}{t tk:TA}{nm:Option Str}
theorem zi6:PK X [] tNil:=fun _ _ _ _ H Q I h=>wpAny_evalAll_nil ⟨[],H,I,.nil,h⟩
theorem zfl(ha:PE X e te)(hr:PK X kws t):PK X (⟨nm,e,kpos⟩::kws) (zfz te t):=by
  intro pos pins s σ H Q I h
  show wpAny _ _ (evalAll ((do let v <-eval e X.env;standAt pos;pure v)::(backToKw pos (keywordEach kws X.env)).map (·.2))) _ _ s
  refine wpAny_evalAll_cons (wpAny_bind (thn (ha pins s σ H _ I h) fun u s1 ⟨x,H1,I1,r1,q1⟩=>wpAny_bind (wpAny_standAt (wpAny_pure ?_))));exact thn (hr pos pins s1 σ H1 _ I1 q1) fun us s2 ⟨xs,H2,I2,r2,q2⟩=>⟨x::xs,H2,I2,.cons r1 r2,q2⟩
variable{g:List Value->List Value->List Value}{gV:List V->List V->List V}
end
structure zr(N P:List Str)(sc:Scope):Prop where
  kind:sc.kind=.function
  co:sc.isCoroutine=false
  gen:sc.isGenerator=false
  nd:N.Nodup
  pre:N.take P.length=P
  par:∀x∈P,sc.names.lookup x=some .local\/sc.names.lookup x=some .cell
  nofree:∀y∈sc.names,y.2≠.free
theorem za6{kindOf:Str->Option NameKind}{x:Str}:∀{binds:List (Str×Value)} {m:Str->Option Value},(∀v,(x,v)∉binds)->bindL kindOf binds m x=m x
  | [],_,_=>rfl
  | (n,v)::r,m,h=>by
    unfold bindL;rw[za6 fun w hw=>h w (Zv _ hw)]
    split
    . have:x≠n:=by rintro rfl;exact h v ZA
      simp[this]
    . rfl
theorem za7{kindOf:Str->Option NameKind}{x:Str}:∀{binds:List (Str×Value)} {m:Str->Option Value},(∀v,(x,v)∉binds)->bindC kindOf binds m x=m x
  | [],_,_=>rfl
  | (n,v)::r,m,h=>by
    unfold bindC;rw[za7 fun w hw=>h w (Zv _ hw)]
    split
    . rfl
    . have:x≠n:=by rintro rfl;exact h v ZA
      simp[this]
theorem za5{kindOf:Str->Option NameKind}{x:Str}{v:Value}:∀{P:List Str} {vs:List Value} {i:Nat} {m:Str->Option Value},P.Nodup->P[i]? = some x->vs[i]? = some v->kindOf x=some .local ->
    bindL kindOf (P.zip vs) m x=some v
  | [],_,_,_,_,h,_,_=>by simp at h
  | _::_,[],_,_,_,_,h,_=>by simp at h
  | p::P,w::vs,0,m,nd,h1,h2,hk=>by
    simp at h1 h2;subst h1;subst h2
    show bindL kindOf ((p,w)::P.zip vs) m p=_
    unfold bindL;rw[za6 fun v hv=>(ZZ.mp nd).1 (Xh hv).1,if_pos hk];simp
  | p::P,w::vs,i+1,m,nd,h1,h2,hk=>by
    show bindL kindOf ((p,w)::P.zip vs) m x=_
    unfold bindL;exact za5 (i:=i) (ZZ.mp nd).2 (by simpa using h1) (by simpa using h2) hk
theorem zbh{kindOf:Str->Option NameKind}{x:Str}{v:Value}:∀{P:List Str} {vs:List Value} {i:Nat} {m:Str->Option Value},P.Nodup->P[i]? = some x->vs[i]? = some v->kindOf x≠some .local ->
    bindC kindOf (P.zip vs) m x=some v
  | [],_,_,_,_,h,_,_=>by simp at h
  | _::_,[],_,_,_,_,h,_=>by simp at h
  | p::P,w::vs,0,m,nd,h1,h2,hk=>by
    simp at h1 h2;subst h1;subst h2
    show bindC kindOf ((p,w)::P.zip vs) m p=_
    unfold bindC;rw[za7 fun v hv=>(ZZ.mp nd).1 (Xh hv).1,if_neg hk];simp
  | p::P,w::vs,i+1,m,nd,h1,h2,hk=>by
    show bindC kindOf ((p,w)::P.zip vs) m x=_
    unfold bindC;exact zbh (i:=i) (ZZ.mp nd).2 (by simpa using h1) (by simpa using h2) hk
def start(N:List Str)(vs:List V):St:=vs.map some++List.replicate (N.length-vs.length) none
def cxOf(CX:CXT)(P:Program)(w:World)(K:Fg)(mg:Str->Option Value)(base:Heap)(N:List Str)(qual:Str)(scope:Scope)(f:Addr)(cd:Value)(A:Around)(outer:List Env)(s:Shared)(H:Hp)(E:XK):Cx where
  prog:=P
  w:=w
  K:=K
  mg:=mg
  base:=base
  A:=A.deeper (envOfC qual scope s.heap.objs.size f cd)
  N:=N
  s₀:=s
  H₀:=H
  env:=envOfC qual scope s.heap.objs.size f cd
  outer:=outer
  stack:=envOfC qual scope s.heap.objs.size f cd::outer
  ex:=[]
  calm:=true
  fn:=fun _=>true
  pn:=[]
  xe:=fun e s'=>wpAny (model P w) (A.deeper (envOfC qual scope s.heap.objs.size f cd)) (leaving (envOfC qual scope s.heap.objs.size f cd) e) (fun _ s''=>CX outer H s E e s'') (fun e' s''=>CX outer H s E e' s'') s'
theorem zcm{sc:Scope}{n:Nat}{x:Str}(h:sc.names.lookup x=some .cell):∃c,(cellsFrom n sc.names []).lookup x=some c:=by
  have q:=PySem.W.cellsFrom_some sc.names n [] (.inl h);exact Option.isSome_iff_exists.mp q
theorem zid{CX:CXT}{P:Program}{w:World}{K:Fg}{mg:Str->Option Value}{base:Heap}{N ps:List Str}{qual:Str}{scope:Scope}{f:Addr}{cd:Value}{A:Around}{outer:List Env}{s s1:Shared}{H:Hp}{E:XK}{us:List Value}{vs:List V}
    (S:zr N ps scope) (hd:A.handled=none) (e0:Env0 P w K mg base A outer s H) (hl:vs.length=ps.length) (r:Vals vs us)
    (x:InCallC s s.heap.objs.size (bindL (envOfC qual scope s.heap.objs.size f cd).kindOf (ps.zip us) fun _=>none) (cellsFrom (s.heap.objs.size+1) scope.names []) (bindC (envOfC qual scope s.heap.objs.size f cd).kindOf (ps.zip us) fun _=>none) s1) :
    Inv (cxOf CX P w K mg base N qual scope f cd A outer s H E) [] (start N vs) H s1:=by
  have hpl:ps.length<=N.length:=by have:=congrArg List.length S.pre;rw[Zj]at this;omega
  obtain⟨h1,tk,rfl,hk⟩:=x.done;have noA:∀b:Addr,b∉(cxOf CX P w K mg base N qual scope f cd A outer s H E).ex:=fun b z=>absurd (show b∈([]:List Addr) from z) (by simp)
  refine⟨⟨e0.mod,S.kind,rfl,rfl,Zm _,fun y z c h1 h2 => ?_,fun y hy => ?_,fun y c _ h => ?_,fun _=>hd,Around.frames_deeper e0.frames,.inr ⟨rfl,rfl⟩,fun b z=>absurd z (noA b),e0.bs,e0.bsz,fun b _ _=>noA b,fun b z=>absurd z (noA b),e0.funs,e0.frf⟩,
    rfl,e0.bare,Un.kept hk,⟨_,x.toInCall.ns,fun i y v h1 h2 h3 => ?_⟩,fun y c h=>⟨_,x.cell y c h⟩,e0.hok.fresh (Zm _),fun y c h => ?_,fun p hp=>absurd (show p∈([]:List (Addr×Obj)) from hp) (by simp),e0.hok.kept hk,?_⟩
  . exact name_of_addr x.apart (PySem.mem_of_lookup h1) (PySem.mem_of_lookup h2)
  . have hy:scope.names.lookup y=some .cell\/scope.names.lookup y=some .free:=hy
    rcases hy with hy | hy
    . exact zcm hy
    . exact absurd rfl (S.nofree _ (PySem.mem_of_lookup hy))
  . exact YI (x.above y c (PySem.mem_of_lookup h))
  . have hi:i<vs.length:=by
      unfold start at h2
      by_cases hi:i<vs.length
      . exact hi
      . rw[Zf (by simpa using hi)]at h2
        rw[YL]at h2
        split at h2 <;> cases h2
    have ha:vs[i]? = some v:=by
      unfold start at h2;rw[Zg (by simpa using hi),Ze]at h2
      cases e:vs[i]? with
      | none=>rw[e]at h2;cases h2
      | some a=>rw[e]at h2;cases h2;rfl
    obtain⟨u,hu,rv⟩:=r.get ha
    have hp:ps[i]? = some y:=by
      rw[<-S.pre,Yn (by omega)];exact h1
    have ndP:ps.Nodup:=by rw[<-S.pre];exact S.nd.sublist (List.take_sublist _ _)
    refine⟨u,rv,?_⟩
    rcases S.par y (Zi hp) with k | k
    . exact .inl ⟨k,za5 ndP hp hu k⟩
    . obtain⟨c,e⟩:=zcm (n:=s.heap.objs.size+1) k
      refine .inr ⟨.inl k,c,e,?_⟩;have q:=x.cell y c e;rw[zbh ndP hp hu (by show scope.names.lookup y≠_;rw[k];decide)]at q;exact q
  . exact e0.hok.fresh (YI (x.above y c (PySem.mem_of_lookup h)))
  . unfold start
    show _=N.length
    rw[Zo,Za,ZI];omega
theorem fn_of{CX:CXT}{P:Program}{w:World}{K:Fg}{mg:Str->Option Value}{base:Heap}{k:Nat}{f:Addr}{name qual:Str}{params:Arguments}{body:List Stmt}{scope:Scope}{dV kV doc pm cdv ct oc:Value}{an od:Option Addr}
    {osl:Array (Option Value)} {N ps:List Str} {sp:Sp} (lk:K.lookup f=some ⟨oc,od,.func (PySem.W.fnOf name qual params body scope dV kV doc pm an cdv ct),osl⟩) (hcd:PySem.W.codeIn K cdv qual=true) (S:zr N ps scope)
    (len:∀vs H Q E,sp vs H Q E->vs.length=ps.length)
    (hbody:∀(A:Around) (outer:List Env) (s:Shared) (H:Hp) (vs:List V) (Q:VK) (E:XK),Room k (A.deeper (envOfC qual scope s.heap.objs.size f cdv))->sp vs H Q E ->
      ∃t,PSs (cxOf CX P w K mg base N qual scope f cdv A outer s H E) body t/\t { nx:=fun _ H'=>Q .non H',rt:=Q } (start N vs) H) :
    FnOk P w K mg base CX (k+1) f (PySem.W.fnOf name qual params body scope dV kV doc pm an cdv ct) ps sp:=by
  refine⟨len,fun A outer s H args us vs Q E hr e0 hb r hsp => ?_⟩;have hl:=len _ _ _ _ hsp;have KX:K.In s.heap:=e0.mod.kin.keeps fun b o e=>(e0.bs b o e).1
  have lim:s.heap.NoLimit:=e0.mod.nolimit.keeps fun b o e=>(e0.bs b o e).1
  have hkind:∀y∈ps.zip us,scope.names.lookup y.1=some .local\/(scope.names.lookup y.1=some .cell/\((cellsFrom (s.heap.objs.size+1) scope.names []).lookup y.1).isSome=true):=fun⟨n,v⟩ hy=>by
    rcases S.par n (Xh hy).1 with q | q
    . exact .inl q
    . exact .inr ⟨q,PySem.W.cellsFrom_some _ _ _ (.inl q)⟩
  refine codeAny_call_function hr.depth (KX _ _ lk) rfl S.co S.gen rfl (PySem.W.codeRec_of KX hcd) (hb _ _ _ _ ?_);refine wpAny_newFunctionEnv_cells S.kind hkind fun env he s1 x => ?_
  subst he;refine⟨lim.keeps x.toInCall.keep,codeAny_func ?_⟩;obtain⟨t,ht,hq⟩:=hbody A outer s H vs Q E (hr.deeper _) hsp;have I:Inv (cxOf CX P w K mg base N qual scope f cdv A outer s H E) [] (start N vs) H s1:=zid S hr.hd e0 hl r x;refine wpAny_mono (ht [] s1 (start N vs) H _ I hq) (fun fl s' hs => ?_) fun e s' hs=>hs
  have fin:∀{σ':St} {H':Hp} {v:V} {u:Value},Inv (cxOf CX P w K mg base N qual scope f cdv A outer s H E) [] σ' H' s'->RelV v u->Q v H'->CE outer P w H s Q u s' :=
    fun {σ' H' v u} J rv q=>⟨v,H',J.os,J.bare,J.base,J.hok,rv,q⟩
  cases fl with
  | ret u =>
    obtain⟨v,σ',H',J,rv,q⟩:=hs;exact fin J rv q
  | next =>
    obtain⟨σ',H',J,q⟩:=hs;exact fin (v:=V.non) (u:=Value.none) J rfl q
  | brk =>
    obtain⟨_,_,_,q⟩:=hs;exact False.elim q
  | cont =>
    obtain⟨_,_,_,q⟩:=hs;exact False.elim q
end L2
namespace L2
open PySem PySem.Spec PyProof.Rows
section
variable{X:Cx}{x:Str}{p pos:Pos}{e:Expr}{es:List Expr}{t:TA}{id T:String}{r:List V->Hp->VK->Prop}
def tCB(r:List V->Hp->VK->Prop)(t:TA):TE:=fun σ H Q=>t σ H fun vs H1=>r vs H1 Q
theorem zq (hc:ve X (.builtin id) r) (hg:Gl X x) (hm:X.mg x=none) (hv:bootBuiltins x=some (.builtin id)) (ha:PA X (e::es) t) (hn:x ≠ "__name__" := by decide) (hdb:(x==("__debug__" : Str))=false:=by decide)
    (he:starEach (e::es) X.env=(false,eval e X.env)::starEach es X.env:=by rfl) (hpl:(backTo pos (starEach es X.env)).any (·.1)=false:=by rfl):PE X (.Call (.Name x p) (e::es) [] pos) (tCB r t):=by
  intro pins s σ H Q I h;refine wpAny_Call_Name_kw (ud I hg hm hv ?_ hn hdb);exact PyProof.Rows.callWith_builtin1 (thn (ha pos pins s σ H _ I h) fun us s1 ⟨vs,H1,I1,r1,q1⟩=>hc pins s1 σ H1 vs us Q I1 r1 q1) he hpl
theorem vf (hc:ve X (.type T) r) (hg:Gl X x) (hm:X.mg x=none) (hv:bootBuiltins x=some (.type T)) (ha:PA X (e::es) t) (hn:x ≠ "__name__" := by decide) (hdb:(x==("__debug__" : Str))=false:=by decide)
    (he:starEach (e::es) X.env=(false,eval e X.env)::starEach es X.env:=by rfl) (hpl:(backTo pos (starEach es X.env)).any (·.1)=false:=by rfl):PE X (.Call (.Name x p) (e::es) [] pos) (tCB r t):=by
  intro pins s σ H Q I h;refine wpAny_Call_Name_kw (ud I hg hm hv ?_ hn hdb);exact PyProof.Rows.callWith_type1 (thn (ha pos pins s σ H _ I h) fun us s1 ⟨vs,H1,I1,r1,q1⟩=>hc pins s1 σ H1 vs us Q I1 r1 q1) he hpl
end
end L2
namespace HT
open PySem PyProof.Rows
section
open PySem.SeqAt
open PySem.AutoSeq1 (wpAny_loadPart')
open PySem.MeetsSeq PySem.MeetsSeq2 PySem.MeetsSeq3
end
section
variable{prog:Program}{w:World}{A:Around}{E:Value->Shared->Prop}{s:Shared}
theorem cat_tup{t b:Addr}{vs ws:List Value}{Q:Value->Shared->Prop}(ht:IsTup s.heap t vs.toArray)(hb:IsTup s.heap b ws.toArray)(hv:vs≠[])
    (h1:ws=[]->Q (.ref t) s) (h2:ws≠[]->Q (.ref s.heap.objs.size) { s with heap:=s.heap.push { cls:=.type "tuple", data:=.seq (vs++ws).toArray } })
    (hsz:vs.length+ws.length<=sizeLine):wpAny (model prog w) A (binaryOp .Add (.ref t) (.ref b)) Q E s:=by
  obtain⟨⟨cls,dd,data,sl⟩,ho,hc,n,hd⟩:=id ht;obtain⟨⟨cls2,dd2,data2,sl2⟩,ho2,hc2,n2,hd2⟩:=id hb;simp only at hc hd hc2 hd2;subst hc hd hc2 hd2;have e:vs.toArray++ws.toArray=(vs++ws).toArray:=by simp
  by_cases hw:ws=[]
  . exact concat_meets ⟨_,ho,rfl⟩ ⟨_,ho2,rfl⟩ noFill_tuple_add seq_tuple_add PySem.F.slot_tuple_add PySem.F.entry_tuple_add (PySem.F.args_tuple_add_2 _ _)
      (tuple_addW1 t b vs.toArray ws.toArray n n2 dd dd2 sl sl2 (by simpa using hv) (by simp[hw])) ⟨ho,ho2,h1 hw⟩
  . refine concat_meets ⟨_,ho,rfl⟩ ⟨_,ho2,rfl⟩ noFill_tuple_add seq_tuple_add PySem.F.slot_tuple_add PySem.F.entry_tuple_add (PySem.F.args_tuple_add_2 _ _)
      (tuple_addW2 t b vs.toArray ws.toArray n n2 dd dd2 sl sl2 (by simpa using hv) (by simpa using hw) (by rw[Zr,Zr];exact hsz)) ⟨ho,ho2,?_⟩
    rw[e];exact h2 hw
def sIx(n d:Nat):Option Int->Nat
  | none=>d
  | some v=>if v<0 then(v+(n:Int)).toNat else min v.toNat n
theorem sIx_none(n d:Nat):sIx n d none=d:=rfl
theorem sIx_nat(n d k:Nat):sIx n d (some (k:Int))=min k n:=by
  show(if (k:Int)<0 then((k:Int)+(n:Int)).toNat else min (k:Int).toNat n)=min k n
  rw[if_neg (by omega),Zw]
theorem sIx_le(n d:Nat)(hd:d<=n)(o:Option Int):sIx n d o<=n:=by
  cases o with
  | none=>exact hd
  | some v =>
    show(if v<0 then(v+(n:Int)).toNat else min v.toNat n)<=n
    by_cases hv:v<0
    . rw[if_pos hv];omega
    . rw[if_neg hv];exact ZB _ _
theorem zeo(v:Int)(n d:Nat):(if v<0 then max (v+(n:Int)) 0 else min v (n:Int))=((sIx n d (some v):Nat):Int):=by
  show(if v<0 then max (v+(n:Int)) 0 else min v (n:Int))=(((if v<0 then(v+(n:Int)).toNat else min v.toNat n):Nat):Int)
  by_cases hv:v<0
  . simp only[if_pos hv];omega
  . simp only[if_neg hv];omega
theorem zg1(lo hi:Option Int)(n:Nat):Builtin.Slice.sliceAdjust lo hi 1 (n:Int)=(((sIx n 0 lo:Nat):Int),((sIx n n hi:Nat):Int)):=by
  have h1:¬((1:Int)<0):=by omega
  unfold Builtin.Slice.sliceAdjust;simp only[h1,if_false];refine Prod.ext ?_ ?_
  . cases lo with
    | none=>rfl
    | some v=>exact zeo v n 0
  . cases hi with
    | none=>rfl
    | some v=>exact zeo v n n
theorem zg9(i j:Nat):Builtin.Slice.slicePlaces (i:Int) (j:Int) 1=j-i:=by
  unfold Builtin.Slice.slicePlaces;have h1:(1:Int) > 0:=by omega
  simp only[h1,if_true,Int.ediv_one]
  split <;> omega
theorem ae{v:Value}{o:Option Int}{Q:Option Int->Shared->Prop}(p:IsPart v o)(h:Q o s):wpAny (model prog w) A (Builtin.Slice.slicePartIndex v) Q E s:=by
  cases p with
  | none=>exact slicePart_none h
  | int i t=>exact slicePart_int h
theorem ky{sl:Addr}{vl vu:Value}{lo hi:Option Int}{n:Nat}{Q:Int×Int×Nat->Shared->Prop}(hs:s.heap.IsSliceOf sl vl vu .none)(pl:IsPart vl lo)(pu:IsPart vu hi)
    (h:Q (((sIx n 0 lo:Nat):Int),1,sIx n n hi-sIx n 0 lo) s):wpAny (model prog w) A (Builtin.Slice.sliceApplied (.ref sl) (pure (n:Int))) Q E s:=by
  obtain⟨os,hos,hcs,hds⟩:=id hs;unfold Builtin.Slice.sliceApplied Builtin.Slice.sliceFields;refine wpAny_bind (wpAny_bind (wpAny_field hos hds (x:=vl) rfl (wpAny_bind (wpAny_field hos hds (x:=vu) rfl (wpAny_bind (wpAny_field hos hds (x:=.none) rfl (wpAny_pure ?_)))))));refine wpAny_bind (slicePart_none ?_)
  show wpAny _ _ (if ((1:Int)==0)=true then _ else _) _ _ s
  rw[if_neg (by decide)];refine wpAny_bind (ae pl (wpAny_bind (ae pu (wpAny_bind (wpAny_pure ?_)))))
  show wpAny _ _ (match Builtin.Slice.sliceAdjust lo hi 1 (n:Int) with | (lo,hi)=>pure (lo,(1:Int),Builtin.Slice.slicePlaces lo hi 1)) _ _ s
  rw[zg1 lo hi n]
  show wpAny _ _ (pure (((sIx n 0 lo:Nat):Int),(1:Int),Builtin.Slice.slicePlaces ((sIx n 0 lo:Nat):Int) ((sIx n n hi:Nat):Int) 1)) _ _ s
  rw[zg9];exact wpAny_pure h
theorem zkl(xs:Array Value)(i k:Nat):((List.range k).filterMap fun(m:Nat)=>xs[((i:Int)+(m:Int)*1).toNat]?).toArray=((xs.toList.drop i).take k).toArray:=by
  have e:(fun(m:Nat)=>xs[((i:Int)+(m:Int)*1).toNat]?)=fun m=>xs[i+m]? := by
    funext m
    have:((i:Int)+(m:Int)*1).toNat=i+m:=by omega
    rw[this]
  rw[e];have:=pick_run xs i k;rw[List.filterMap_map]at this;have e2:((fun x=>xs[x]?)∘fun x=>i+x)=fun m=>xs[i+m]? := rfl
  rw[e2]at this;rw[this]
theorem getItem_tuple_cut{t sl:Addr}{items:Array Value}{vl vu:Value}{lo hi:Option Int}{Q:Value->Shared->Prop}(ht:IsTup s.heap t items)(hs:s.heap.IsSliceOf sl vl vu .none)(pl:IsPart vl lo)(pu:IsPart vu hi)
    (hw:¬(sIx items.size 0 lo=0/\sIx items.size items.size hi=items.size))
    (h:Q (.ref s.heap.objs.size) { s with heap:=s.heap.push { cls:=.type "tuple", data:=.seq ((items.toList.drop (sIx items.size 0 lo)).take (sIx items.size items.size hi-sIx items.size 0 lo)).toArray } })
    (hsz:items.size<=sizeLine):wpAny (model prog w) A (getItem (.ref t) (.ref sl)) Q E s:=by
  have htake:sizeOk (.seq ((items.toList.drop (sIx items.size 0 lo)).take (sIx items.size items.size hi-sIx items.size 0 lo)).toArray):=by
    show((items.toList.drop (sIx items.size 0 lo)).take (sIx items.size items.size hi-sIx items.size 0 lo)).toArray.size<=sizeLine
    rw[Zr,Zj,Yc,ZS];omega
  have hj:sIx items.size items.size hi<=items.size:=sIx_le _ _ (Zm _) hi;obtain⟨os,hos,hcs,hds⟩:=id hs;have hTs:s.TypeIs (.ref sl) "slice" := ⟨os,hos,hcs⟩;unfold getItem
  try with_reducible refine wpAny_holding ?_
  first | refine wpAny_bind (wpAny_pure ?_) | skip
  refine wpAny_bind (wpAny_sequenceKey ht.typeIs (by decide) ?_)
  refine wpAny_bind (wpAny_callSpecial?_slot (name:=Str.ofString "__getitem__") ht.typeIs PyProof.Rows.slot_tuple_getitem
    (wpAny_call_entry PyProof.Rows.slot_tuple_getitem ht.typeIs entry_tuple_getitem ?_ (args_tuple_getitem _ _)))
  show wpAny _ _ (Builtin.Tuple.tupleItemsOf (.ref t) >>= _) _ _ s
  refine wpAny_bind (tupleItemsOf_ ht ?_);refine wpAny_bind (wpAny_typeOf hTs ?_);rw[if_pos (by decide)];refine wpAny_bind (ky hs pl pu ?_)
  have hno:¬((((sIx items.size 0 lo:Nat):Int)==0&&(1:Int)==1&&(sIx items.size items.size hi-sIx items.size 0 lo)==items.size)=true):=by
    intro q;rw[Bool.and_eq_true,Bool.and_eq_true]at q;have q1:((sIx items.size 0 lo:Nat):Int)=0:=eq_of_beq q.1.1;have q2:sIx items.size items.size hi-sIx items.size 0 lo=items.size:=eq_of_beq q.2;exact hw ⟨by omega,by omega⟩
  show wpAny _ _ (if (((sIx items.size 0 lo:Nat):Int)==0&&(1:Int)==1&&(sIx items.size items.size hi-sIx items.size 0 lo)==items.size)=true then _ else _) _ _ s
  rw[if_neg hno,zkl]
  first
    | exact wpAny_bind (m:=Builtin.Tuple.tupleExact _) (wpAny_newObj_type (wpAny_pure ⟨_,rfl,wpAny_pure h⟩) htake)
    | exact wpAny_bind (m:=Builtin.Tuple.tupleExact _) (wpAny_newObj_type (wpAny_bind (wpAny_pure (wpAny_pure ⟨_,rfl,wpAny_pure h⟩))) htake)
    | exact wpAny_bind (wpAny_bind (m:=Builtin.Tuple.tupleExact _) (wpAny_newObj_type (wpAny_pure (wpAny_pure ⟨_,rfl,wpAny_pure h⟩)) htake))
    | exact wpAny_bind (wpAny_bind (m:=Builtin.Tuple.tupleExact _) (wpAny_newObj_type (wpAny_pure ⟨_,rfl,wpAny_pure h⟩) htake))
end
end HT
namespace L2
open PySem PySem.Spec PyProof.Rows
abbrev TO:=St->Hp->(Option Int->Hp->Prop)->Prop
def PO(X:Cx)(e:Option Expr)(t:TO):Prop :=
  ∀(pins:List (Addr×Obj)) (s:Shared) (σ:St) (H:Hp) (Q:Option Int->Hp->Prop),Inv X pins σ H s->t σ H Q ->
    wpAny (model X.prog X.w) X.A (evalPart e X.env) (fun u s'=>∃o H',Inv X pins σ H' s'/\IsPart u o/\Q o H') X.xe s
def ze9:TO:=fun _ H Q=>Q none H
def tPart(t:TE):TO:=fun σ H Q=>t σ H fun x H1=>∃i,x=.int i/\Q (some i) H1
theorem ak{ns:List Int}:∀{us:List Value},Vals (ns.map V.int) us->IntsAre us ns:=by
  induction ns with
  | nil=>intro us r;rw[Xf]at r;cases r;exact .nil
  | cons n ns ih =>
    intro us r;rw[ZL]at r
    cases r with
    | cons r1 r2 =>
      obtain⟨t,e⟩:=r1;subst e;exact .cons n t (ih r2)
section
variable{X:Cx}{e:Expr}{te:TE}{lo hi:Option Expr}{tl th:TO}{pos p2:Pos}
theorem qz:PO X none ze9:=by
  intro pins s σ H Q I h;rw[evalPart_none];exact wpAny_pure ⟨none,H,I,.none,h⟩
theorem tm(h:PE X e te):PO X (some e) (tPart te):=by
  intro pins s σ H Q I hw;rw[evalPart_some];refine thn (h pins s σ H _ I hw) fun u s1 ⟨x,H1,I1,r1,q1⟩ => ?_
  obtain⟨i,rfl,q⟩:=q1;obtain⟨t,rfl⟩:=r1;exact⟨some i,H1,I1,.int i t,q⟩
def SlR(X:Cx)(r:V->Option Int->Option Int->Hp->VK->Prop):Prop :=
  ∀(pins:List (Addr×Obj)) (s:Shared) (σ:St) (H:Hp) (x:V) (v vl vu:Value) (lo hi:Option Int) (sl:Addr) (Q:VK),Inv X pins σ H s->RelV x v->s.heap.IsSliceOf sl vl vu .none->IsPart vl lo->IsPart vu hi->r x lo hi H Q ->
    ∃T id,typeLookup (.type T) "__getitem__" = pure (some (.builtin id))/\s.TypeIs v T/\wpAny (model X.prog X.w) X.A (getItem v (.ref sl)) (EP X pins σ Q) X.xe s
def tSl(r:V->Option Int->Option Int->Hp->VK->Prop)(te:TE)(tl th:TO):TE:=fun σ H Q=>te σ H fun x H1=>tl σ H1 fun l H2=>th σ H2 fun u H3=>r x l u H3 Q
theorem re{r:V->Option Int->Option Int->Hp->VK->Prop}(hr:SlR X r)(he:PE X e te)(hl:PO X lo tl)(hu:PO X hi th):PE X (.Subscript e (.Slice lo hi none p2) pos) (tSl r te tl th):=by
  intro pins s σ H Q I h;refine Subscript_ (thn (he pins s σ H _ I h) fun v s1 ⟨x,H1,I1,r1,q1⟩ => ?_);refine wpAny_Slice (thn (hl pins s1 σ H1 _ I1 q1) fun vl s2 ⟨l,H2,I2,pl,q2⟩=>thn (hu pins s2 σ H2 _ I2 q2) fun vu s3 ⟨u,H3,I3,pu,q3⟩ => ?_);rw[evalPart_none];refine wpAny_pure ?_;have I4:Inv X pins σ H3 { s3 with heap:=s3.heap.push { cls:=.type "slice", data:=.fields #[vl,vu,.none] } }:=I3.kept (t':=s3.toks) fun b ob q=>Heap.get?_push_of_some _ q
  obtain⟨T,id,hT,ht,hg⟩:=hr pins { s3 with heap:=s3.heap.push { cls:=.type "slice", data:=.fields #[vl,vu,.none] } } σ H3 x v vl vu l u s3.heap.objs.size Q I4 r1 (Heap.IsSliceOf.new ..) pl pu q3
  show wpAny (model X.prog X.w) X.A (subscriptTail e (.Slice lo hi none p2) v (.ref s3.heap.objs.size)) (EP X pins σ Q) X.xe { s3 with heap:=s3.heap.push { cls:=.type "slice", data:=.fields #[vl,vu,.none] } }
  exact tail_any (ops:=[.ref s3.heap.objs.size,v]) ht hT hg (by with_unfolding_all rfl)
def cutV(xs:List V)(lo hi:Option Int):List V:=(xs.drop (HT.sIx xs.length 0 lo)).take (HT.sIx xs.length xs.length hi-HT.sIx xs.length 0 lo)
theorem dy(xs:List V)(lo hi:Option Int):(cutV xs lo hi).length<=xs.length:=by
  unfold cutV;rw[Zj,Yc];omega
def rSlT(K:Fg):V->Option Int->Option Int->Hp->VK->Prop:=fun x lo hi H Q=>∃a xs,x=.ref a/\SqT K H a xs /\
  ¬(HT.sIx xs.length 0 lo=0/\HT.sIx xs.length xs.length hi=xs.length)/\∀p,H p=none->Q (.ref p) (upd H p (.tup (cutV xs lo hi)))
theorem zcx:SlR X (rSlT X.K):=by
  intro pins s σ H x v vl vu lo hi sl Q I rx hs pl pu h;obtain⟨a,xs,rfl,hx,hw,q⟩:=h;cases rx;obtain⟨its,r,ht,hz⟩:=I.tuple hx;have hlen:its.toArray.size=xs.length:=by rw[Zr];exact r.length.symm
  refine⟨"tuple", _,PyProof.Rows.slot_tuple_getitem.lookup,ht.typeIs,?_⟩;refine HT.getItem_tuple_cut ht hs pl pu (by rw[hlen];exact hw) ?_ (by rw[hlen];exact hz);rw[hlen];refine⟨.ref s.heap.objs.size,_,I.laid (t':=s.toks) (o:=.tup (cutV xs lo hi)) (fun b ob q=>Heap.get?_push_of_some _ q) (Zm _) ?_,rfl,q _ (I.hok.fresh (Zm _))⟩;exact⟨Zd (dy xs lo hi) hz,_,(r.drop (HT.sIx xs.length 0 lo)).take (HT.sIx xs.length xs.length hi-HT.sIx xs.length 0 lo),IsTupD.new _ _⟩
def rCatT(K:Fg):R2:=fun x y H Q=>∃a b xs ys,x=.ref a/\y=.ref b/\SqT K H a xs/\SqT K H b ys/\xs≠[]/\xs.length+ys.length<=sizeLine /\
  (ys=[]->Q (.ref a) H)/\(ys≠[]->∀p,H p=none->Q (.ref p) (upd H p (.tup (xs++ys))))
theorem Vals.nil_iff{xs:List V}{us:List Value}(r:Vals xs us):us=[]↔xs=[]:=by
  cases r with
  | nil=>simp
  | cons _ _=>simp
theorem zlb:OpR X (binaryOp .Add) (rCatT X.K):=by
  intro pins s σ H x y v u Q I rx ry h;obtain⟨a,b,xs,ys,rfl,rfl,ha,hb,hx,hz,q1,q2⟩:=h;cases rx;cases ry;obtain⟨its,r1,p1,_⟩:=I.tuple ha;obtain⟨its2,r2,p2,_⟩:=I.tuple hb;refine HT.cat_tup p1 p2 (fun z=>hx (r1.nil_iff.mp z)) (fun z=>⟨.ref a,H,I,rfl,q1 (r2.nil_iff.mp z)⟩) (fun z => ?_) (by rw[<-r1.length,<-r2.length];exact hz);refine⟨.ref s.heap.objs.size,_,I.laid (t':=s.toks) (o:=.tup (xs++ys)) (fun b ob q=>Heap.get?_push_of_some _ q) (Zm _) ?_,rfl,q2 (fun w=>z (r2.nil_iff.mpr w)) _ (I.hok.fresh (Zm _))⟩;exact⟨by rw[Zo];exact hz,_,r1.append r2,IsTupD.new _ _⟩
end
end L2
namespace L2
open PySem PySem.Spec PyProof.Rows
def ixN(n:Nat)(i:Int):Option Nat:=if 0<=i then(if i<n then some i.toNat else none) else if -(n:Int)<=i then some (i+n).toNat else none
def atI{α:Type}(xs:List α)(i:Int):Option α:=(ixN xs.length i).bind fun j=>xs[j]?
theorem zme{n:Nat}{i:Int}{j:Nat}(h:ixN n i=some j):seqIndex? i n=some j/\j<n /\ -(n:Int)<=i/\i<n:=by
  unfold ixN at h
  by_cases h0:0<=i
  . rw[if_pos h0]at h
    by_cases h1:i<n
    . rw[if_pos h1]at h
      have e:i.toNat=j:=Option.some.inj h;exact⟨by rw[seqIndex_of h0 h1,e],by omega,by omega,h1⟩
    . rw[if_neg h1]at h;cases h
  . rw[if_neg h0]at h
    by_cases h1 : -(n:Int)<=i
    . rw[if_pos h1]at h
      have e:(i+n).toNat=j:=Option.some.inj h;exact⟨by rw[seqIndex_neg (by omega) h1,e],by omega,h1,by omega⟩
    . rw[if_neg h1]at h;cases h
theorem zat{α:Type}{xs:List α}{i:Int}{v:α}(h:atI xs i=some v):∃j,seqIndex? i xs.length=some j/\xs[j]? = some v/\j<xs.length /\ -(xs.length:Int)<=i/\i<xs.length:=by
  unfold atI at h
  cases e:ixN xs.length i with
  | none=>rw[e]at h;cases h
  | some j =>
    rw[e]at h;obtain⟨h1,h2,h3,h4⟩:=zme e;exact⟨j,h1,h,h2,h3,h4⟩
theorem zy{α:Type}{xs:List α}{j:Nat}{v:α}(h:xs[j]? = some v):atI xs (j:Int)=some v:=by
  have hj:j<xs.length:=(Zc.mp h).1
  have e:ixN xs.length (j:Int)=some j:=by
    unfold ixN;rw[if_pos (by omega),if_pos (by omega)];simp
  unfold atI;rw[e];exact h
theorem zkc{α:Type}(xs:List α)(v:α):atI (xs++[v]) (-1)=some v:=by
  have hl:(xs++[v]).length=xs.length+1:=by simp
  have e:ixN (xs++[v]).length (-1)=some xs.length:=by
    unfold ixN;rw[hl,if_neg (by decide),if_pos (by omega)]
    congr 1
    omega
  unfold atI;rw[e]
  show(xs++[v])[xs.length]? = some v
  simp
def zk8(b:Expr):Prop:=∀o i,subscripted b false o i=operate [o,i] (getItem o i)
def IxR(X:Cx)(r:R2):Prop :=
  ∀(value slice:Expr) (pins:List (Addr×Obj)) (s:Shared) (σ:St) (H:Hp) (x y:V) (v u:Value) (Q:VK),Inv X pins σ H s->RelV x v->RelV y u->r x y H Q ->
    subscripted slice false v u=operate [v,u] (getItem v u)->wpAny (model X.prog X.w) X.A (subscriptTail value slice v u) (EP X pins σ Q) X.xe s
def MtR(X:Cx)(id:String)(r:V->List V->Hp->VK->Prop):Prop :=
  ∀(pins:List (Addr×Obj)) (s:Shared) (σ:St) (H:Hp) (x:V) (xs:List V) (v:Value) (us:List Value) (Q:VK),Inv X pins σ H s->RelV x v->Vals xs us->r x xs H Q ->
    wpAny (model X.prog X.w) X.A (call (.builtin id) (v::us)) (EP X pins σ Q) X.xe s
section
variable{X:Cx}{a b:Expr}{ta tb:TE}{pos:Pos}
theorem z0{r:R2}(hr:IxR X r)(ha:PE X a ta)(hb:PE X b tb)(hs:zk8 b):PE X (.Subscript a b pos) (tOp r ta tb):=by
  intro pins s σ H Q I h;exact Subscript_ (binT ha hb I h fun v u s2 x y H2 I2 rx ry q=>hr a b pins s2 σ H2 x y v u Q I2 rx ry q (hs _ _))
def rIxL(K:Fg):R2:=fun x y H Q=>∃p xs i v,x=.ref p/\y=.int i/\SqL K H p xs/\atI xs i=some v/\Q v H
def rIxT(K:Fg):R2:=fun x y H Q=>∃p xs i v,x=.ref p/\y=.int i/\SqT K H p xs/\atI xs i=some v/\Q v H
def rIxS:R2:=fun x y H Q=>∃z i c,x=.str z/\y=.int i/\z.length<=sizeLine/\atI z.cps.toList i=some c/\Q (.str ⟨#[c]⟩) H
theorem yf:IxR X (rIxL X.K):=by
  intro value slice pins s σ H x y v u Q I rx ry h hs;obtain⟨p,xs,i,z,rfl,rfl,hq,he,q⟩:=h;cases rx;obtain⟨t,rfl⟩:=ry;obtain⟨its,r,pl,hz⟩:=I.list hq;obtain⟨j,h1,h2,h3,h4,h5⟩:=zat he;obtain⟨w,ew,rw'⟩:=r.get h2;have hl:=r.length;have hn:=l5;have fin:EP X pins σ Q w s:=⟨z,H,I,rw',q⟩
  by_cases h0:0<=i
  . have hj:i.toNat=j:=by
      rw[seqIndex_of h0 h5]at h1;exact Option.some.inj h1
    exact item_listR pl.isList h0 (by omega) (by rw[hj];simpa using ew) fin hs
  . have hj:(i+(its.toArray.size:Int)).toNat=j:=by
      rw[seqIndex_neg (by omega) h4]at h1;rw[Zr,<-hl];exact Option.some.inj h1
    exact subscriptTail_builtinR (x:=w) pl.isList.typeIs slot_list_getitem.lookup
      (wpAny_getItem_list_neg (Q:=fun r s'=>r=w/\EP X pins σ Q r s') pl.isList (by omega) (by rw[Zr] <;> omega) (by omega) (by rw[hj];simpa using ew) ⟨rfl,fin⟩) hs
theorem yh:IxR X (rIxT X.K):=by
  intro value slice pins s σ H x y v u Q I rx ry h hs;obtain⟨p,xs,i,z,rfl,rfl,hq,he,q⟩:=h;cases rx;obtain⟨t,rfl⟩:=ry;obtain⟨its,r,pl,hz⟩:=I.tuple hq;obtain⟨j,h1,h2,h3,h4,h5⟩:=zat he;obtain⟨w,ew,rw'⟩:=r.get h2;have hl:=r.length;have hn:=l5;have fin:EP X pins σ Q w s:=⟨z,H,I,rw',q⟩
  exact subscriptTail_builtinR (x:=w) pl.typeIs slot_tuple_getitem.lookup
    (getItem_tuple (j:=j) (Q:=fun r s'=>r=w/\EP X pins σ Q r s') pl (by omega) (by omega) (by rw[Zr,<-hl];exact h1) (by simpa using ew) ⟨rfl,fin⟩) hs
theorem ziw:IxR X rIxS:=by
  intro value slice pins s σ H x y v u Q I rx ry h hs;obtain⟨z,i,c,rfl,rfl,hz,he,q⟩:=h;obtain⟨t,rfl⟩:=rx;obtain⟨t',rfl⟩:=ry;obtain⟨j,h1,h2,h3,h4,h5⟩:=zat he;have hl:z.cps.toList.length=z.length:=by simp[Str.length]
  rw[hl]at h1 h4 h5;have hn:=l5
  exact tail_any (typeIs_str s z t) slot_str_getitem.lookup (getItem_str (c:=c) (by
    have e1:decide (i < -(2^63:Int))=false:=decide_eq_false (by omega);have e2:decide (i ≥ 2^63)=false:=decide_eq_false (by omega)
    rw[e1,e2,Bool.or_false]) (by rw[h1];simpa using h2) ⟨.str ⟨#[c]⟩,H,I.tok _,⟨_,rfl⟩,q⟩) hs
def rSetL:V->V->V->Hp->(Hp->Prop)->Prop:=fun o i v H Q=>∃p xs k j,o=.ref p/\i=.int k/\H p=some (.lst xs)/\ixN xs.length k=some j/\Q (upd H p (.lst (xs.set j v)))
theorem zc0(lo hi:Option Int)(n:Nat):(sliceBounds lo hi none n).1=((HT.sIx n 0 lo:Nat):Int)/\(sliceBounds lo hi none n).2.1=((HT.sIx n n hi:Nat):Int)/\(sliceBounds lo hi none n).2.2=1:=by
  refine⟨?_,?_,rfl⟩
  . cases lo with
    | none=>simp[sliceBounds,HT.sIx]
    | some i =>
      simp only[sliceBounds,HT.sIx,Option.getD_none,show(1:Int) > 0 by decide,if_true]
      by_cases h:i<0
      . simp only[h,if_true] <;> omega
      . simp only[h,if_false] <;> omega
  . cases hi with
    | none=>simp[sliceBounds,HT.sIx]
    | some i =>
      simp only[sliceBounds,HT.sIx,Option.getD_none,show(1:Int) > 0 by decide,if_true]
      by_cases h:i<0
      . simp only[h,if_true] <;> omega
      . simp only[h,if_false] <;> omega
theorem zbu(its:List Value)(lo hi:Option Int):slicePick its.toArray lo hi none=((its.drop (HT.sIx its.length 0 lo)).take (HT.sIx its.length its.length hi-HT.sIx its.length 0 lo)).toArray:=by
  obtain⟨h1,h2,h3⟩:=zc0 lo hi its.toArray.size;unfold slicePick;rw[h1,h2,h3];simp only[sliceRange_one,pick_run,Zr] <;> rfl
def rSlL(K:Fg):V->Option Int->Option Int->Hp->VK->Prop:=fun x lo hi H Q=>∃a xs,x=.ref a/\SqL K H a xs/\∀p,H p=none->Q (.ref p) (upd H p (.lst (cutV xs lo hi)))
theorem zk6:SlR X (rSlL X.K):=by
  intro pins s σ H x v vl vu lo hi sl Q I rx hs pl pu h;obtain⟨a,xs,rfl,hx,q⟩:=h;cases rx;obtain⟨its,r,ht,hz⟩:=I.list hx;have hlen:=r.length;refine⟨"list", _,slot_list_getitem.lookup,ht.isList.typeIs,?_⟩;refine wpAny_getItem_list_slice ht.isList hs pl pu .none (by simp) ?_ (by rw[Zr] <;> omega);rw[zbu,<-hlen];refine⟨.ref s.heap.objs.size,_,I.laid (t':=s.toks) (o:=.lst (cutV xs lo hi)) (fun b ob q=>Heap.get?_push_of_some _ q) (Zm _) ?_,rfl,q _ (I.hok.fresh (Zm _))⟩;exact⟨Zd (dy xs lo hi) hz,_,0,(r.drop (HT.sIx xs.length 0 lo)).take (HT.sIx xs.length xs.length hi-HT.sIx xs.length 0 lo),Heap.get?_push_size _ rfl⟩
def ua:V->Bool
  | .non=>true
  | .bl _=>true
  | .int _=>true
  | .str _=>true
  | _=>false
def eqV:V->V->Bool
  | .non,.non=>true
  | .bl a,.bl b=>a==b
  | .bl a,.int b=>(if a then 1 else 0)==b
  | .int a,.bl b=>a==(if b then 1 else 0)
  | .int a,.int b=>a==b
  | .str a,.str b=>a==b
  | _,_=>false
theorem eqAt_V{A:Around}{s:Shared}{y x:V}{u v:Value}(ry:RelV y u)(rx:RelV x v)(fy:ua y=true)(fx:ua x=true):SeqAt.EqAt A s u v (eqV y x):=by
  cases y with
  | non =>
    cases ry
    cases x with
    | non=>cases rx;exact SeqAt.EqAt.same _
    | bl b=>cases rx;exact SeqAt.EqAt.none_bool b
    | int b=>obtain⟨t,rfl⟩:=rx;exact SeqAt.EqAt.none_int b t
    | str b=>obtain⟨t,rfl⟩:=rx;exact SeqAt.EqAt.none_str b t
    | _=>exact absurd (show false=true from fx) Bool.false_ne_true
  | bl a =>
    cases ry
    cases x with
    | non=>cases rx;exact SeqAt.EqAt.bool_none a
    | bl b=>cases rx;exact SeqAt.EqAt.bool_bool a b
    | int b=>obtain⟨t,rfl⟩:=rx;exact SeqAt.EqAt.bool_int a b t
    | str b=>obtain⟨t,rfl⟩:=rx;exact SeqAt.EqAt.bool_str a b t
    | _=>exact absurd (show false=true from fx) Bool.false_ne_true
  | int a =>
    obtain⟨t',rfl⟩:=ry
    cases x with
    | non=>cases rx;exact SeqAt.EqAt.int_none a t'
    | bl b=>cases rx;exact SeqAt.EqAt.int_bool a t' b
    | int b=>obtain⟨t,rfl⟩:=rx;exact SeqAt.EqAt.int_int a t' b t
    | str b=>obtain⟨t,rfl⟩:=rx;exact SeqAt.EqAt.int_str a t' b t
    | _=>exact absurd (show false=true from fx) Bool.false_ne_true
  | str a =>
    obtain⟨t',rfl⟩:=ry
    cases x with
    | non=>cases rx;exact SeqAt.EqAt.str_none a t'
    | bl b=>cases rx;exact SeqAt.EqAt.str_bool a t' b
    | int b=>obtain⟨t,rfl⟩:=rx;exact SeqAt.EqAt.str_int a t' b t
    | str b=>obtain⟨t,rfl⟩:=rx;exact SeqAt.EqAt.str_str a t' b t
    | _=>exact absurd (show false=true from fx) Bool.false_ne_true
  | _=>exact absurd (show false=true from fy) Bool.false_ne_true
def eqU(x:V)(u:Value):Bool:=match u with
  | .none=>eqV .non x
  | .bool b=>eqV (.bl b) x
  | .int i _=>eqV (.int i) x
  | .str z _=>eqV (.str z) x
  | _=>false
theorem zdm{x y:V}{u:Value}(r:RelV y u)(f:ua y=true):eqU x u=eqV y x:=by
  cases y with
  | non=>cases r;rfl
  | bl b=>cases r;rfl
  | int i=>obtain⟨t,rfl⟩:=r;rfl
  | str z=>obtain⟨t,rfl⟩:=r;rfl
  | _=>exact absurd (show false=true from f) Bool.false_ne_true
theorem zak{x:V}:∀{xs:List V} {us:List Value},Vals xs us->xs.all ua=true->us.any (eqU x)=xs.any fun y=>eqV y x
  | _,_,.nil,_=>rfl
  | y::xs,u::us,.cons r t,f=>by
    rw[List.all_cons,Bool.and_eq_true]at f;rw[YQ,YQ,zdm r f.1,zak t f.2]
theorem ku{A:Around}{s:Shared}{x:V}{v:Value}(rx:RelV x v)(fx:ua x=true):∀{xs:List V} {us:List Value},Vals xs us->xs.all ua=true->∀u∈us,SeqAt.EqAt A s u v (eqU x u)
  | _,_,.nil,_=>fun u hu=>by cases hu
  | y::xs,u::us,.cons r t,f=>fun u' hu=>by
    rw[List.all_cons,Bool.and_eq_true]at f
    rcases ZK.mp hu with rfl | hu
    . rw[zdm r f.1];exact eqAt_V r rx f.1 fx
    . exact ku rx fx t f.2 u' hu
def inV(x:V)(xs:List V):Bool:=xs.any fun y=>eqV y x
def rIn(K:Fg)(neg:Bool):R2:=fun x y H Q=>∃p xs,y=.ref p/\(SqL K H p xs\/SqT K H p xs)/\ua x=true/\xs.all ua=true/\Q (.bl (if neg then !inV x xs else inV x xs)) H
theorem zbc:OpR X (compareOp .In) (rIn X.K false):=by
  intro pins s σ H x y v u Q I rx ry h;obtain⟨p,xs,rfl,hq,fx,fs,q⟩:=h;cases ry
  rcases hq with hq | hq
  . obtain⟨its,r,pl,hz⟩:=I.list hq
    refine SeqAt.in_listAt (eqU x) pl.isList (fun w hw=>ku rx fx r fs w (by simpa using hw)) ⟨.bl _,H,I,rfl,?_⟩;rw[show its.toArray.any (eqU x)=its.any (eqU x) by simp,zak r fs];exact q
  . obtain⟨its,r,pl,hz⟩:=I.tuple hq
    refine SeqAt.in_tupleAt (eqU x) pl (fun w hw=>ku rx fx r fs w (by simpa using hw)) ⟨.bl _,H,I,rfl,?_⟩;rw[show its.toArray.any (eqU x)=its.any (eqU x) by simp,zak r fs];exact q
theorem zt:ve X (.builtin "len") (fun xs H Q=>∃p ys,xs=[.ref p]/\(SqL X.K H p ys\/SqT X.K H p ys)/\Q (.int ys.length) H):=by
  intro pins s σ H xs us Q I r h;obtain⟨p,ys,rfl,hq,q⟩:=h;obtain⟨u,rfl,rx⟩:=tz r;cases rx;have hn:=l5
  rcases hq with hq | hq
  . obtain⟨its,r',pl,hz⟩:=I.list hq
    have hlen:=r'.length;exact Calls.call_len_list pl.isList (by simp only[Zr] <;> omega) ⟨.int ys.length,H,I.tok _,⟨s.toks+1,by rw[Zr,hlen]⟩,q⟩
  . obtain⟨its,r',pl,hz⟩:=I.tuple hq
    have hlen:=r'.length;exact len_tuple pl (by simp only[Zr] <;> omega) ⟨.int ys.length,H,I.tok _,⟨s.toks+1,by rw[Zr,hlen]⟩,q⟩
theorem zdn:ve X (.builtin "len") (fun xs H Q=>∃z,xs=[.str z]/\z.length<=sizeLine/\Q (.int z.length) H):=by
  intro pins s σ H xs us Q I r h;obtain⟨z,rfl,hz,q⟩:=h;obtain⟨u,rfl,t,rfl⟩:=tz r;have hn:=l5;exact len_str (by omega) ⟨.int z.length,H,I.tok _,⟨_,rfl⟩,q⟩
theorem zbs:ve X (.type "tuple") (fun xs H Q=>∃p ys,xs=[.ref p]/\((SqL X.K H p ys/\∀l,H l=none->Q (.ref l) (upd H l (.tup ys)))\/(SqT X.K H p ys/\Q (.ref p) H))):=by
  intro pins s σ H xs us Q I r h;obtain⟨p,ys,rfl,h⟩:=h;obtain⟨u,rfl,rx⟩:=tz r;cases rx
  rcases h with ⟨hq,q⟩ | ⟨hq,q⟩
  . obtain⟨its,r',pl,hz⟩:=I.list hq
    have hlen:=r'.length;refine call_tuple_list pl.isList (fun h' kp => ?_) (by simp only[Zr] <;> omega);have I1:Inv X pins σ H { s with heap:=h' }:=I.kept (t':=s.toks) kp
    have I2:Inv X pins σ (upd H h'.objs.size (.tup ys)) { s with heap:=h'.push { cls:=.type "tuple", data:=.seq its.toArray } } :=
      I1.laid (t':=s.toks) (fun b o e=>Heap.get?_push_of_some _ e) (Zm _) (show ObjOk X.prog X.w _ _ _ (.tup ys) from⟨hz,its,r',IsTupD.new _ _⟩)
    exact⟨.ref h'.objs.size,_,I2,rfl,q _ (I1.hok.fresh (Zm _))⟩
  . obtain⟨its,r',pl,hz⟩:=I.tuple hq
    exact call_tuple_same pl ⟨.ref p,H,I,rfl,q⟩
def tyV(K:Fg)(T:String)(x:V)(H:Hp):Prop:=match x with
  | .str _=>T = "str"
  | .int _=>T = "int"
  | .ref p=>(T = "list" /\ ∃xs,SqL K H p xs)\/(T = "tuple" /\ ∃o,K.lookup p=some o/\o.cls=.type "tuple" /\ o.dict=none) \/
      (T = "dict" /\ ((∃kvs,H p=some (.dK kvs))\/∃kvs,H p=some (.dT kvs)))\/(T = "set" /\ ∃S n,H p=some (.set S n))
  | _=>False
theorem tyV_is{pins:List (Addr×Obj)}{σ:St}{H:Hp}{s:Shared}{T:String}{x:V}{v:Value}(I:Inv X pins σ H s)(r:RelV x v)(ty:tyV X.K T x H) :
    s.TypeIs v T/\∀a,v=.ref a->∃ob,s.heap.get? a=some ob/\ob.dict=none:=by
  cases x with
  | str z =>
    obtain⟨t,rfl⟩:=r;cases (show T = "str" from ty);exact⟨typeIs_str s z t,fun _ e=>nomatch e⟩
  | int i =>
    obtain⟨t,rfl⟩:=r;cases (show T = "int" from ty);exact⟨typeIs_int s i t,fun _ e=>nomatch e⟩
  | ref p =>
    cases r
    rcases ty with ⟨rfl,xs,hq⟩ | ⟨rfl,o,hk,hc,hd⟩ | ⟨rfl,hk⟩ | ⟨rfl,S,n,hk⟩
    . obtain⟨its,_,pl,_⟩:=I.list hq
      refine⟨pl.isList.typeIs,fun a e => ?_⟩;cases e;obtain⟨o,n,e,c,hd,_⟩:=pl;exact⟨o,e,hd⟩
    . refine⟨⟨o,I.kIn p o hk,hc⟩,fun a e => ?_⟩
      cases e;exact⟨o,I.kIn _ o hk,hd⟩
    . have z:∃o,s.heap.get? p=some o/\o.ExactDict:=by
        rcases hk with ⟨kvs,hk⟩ | ⟨kvs,hk⟩
        . obtain⟨_,_,_,_,o,_,_,e,ex,_⟩:=I.hok p _ hk
          exact⟨o,e,ex⟩
        . obtain⟨_,_,_,_,o,_,_,e,ex,_⟩:=I.hok p _ hk
          exact⟨o,e,ex⟩
      obtain⟨o,e,ex⟩:=z;refine⟨⟨o,e,ex.1⟩,fun a e2 => ?_⟩;cases e2;exact⟨o,e,ex.2.1⟩
    . obtain⟨o,_,_,_,e,ex,_⟩:=I.hok p _ hk
      refine⟨⟨o,e,ex.1⟩,fun a e2 => ?_⟩;cases e2;exact⟨o,e,ex.2.1⟩
  | _=>exact False.elim ty
def tBM0(K:Fg)(T:String)(r:V->List V->Hp->VK->Prop)(to:TE):TE:=fun σ H Q=>to σ H fun x H1=>tyV K T x H1/\r x [] H1 Q
def tBM(K:Fg)(T:String)(r:V->List V->Hp->VK->Prop)(to:TE)(t:TA):TE:=fun σ H Q=>to σ H fun x H1=>tyV K T x H1/\t σ H1 fun xs H2=>r x xs H2 Q
variable{o e:Expr}{es:List Expr}{to:TE}{t:TA}{name:Str}{apos cpos:Pos}{T id:String}{r:V->List V->Hp->VK->Prop}
theorem qo (pa:PlainAttrs T) (slot:Slot T name id) (hty:typeOf (.builtin id)=pure (.type "method_descriptor")) (hm:MtR X id r) (ho:PE X o to) (ha:PA X (e::es) t)
    (hbase:attributeBase o name X.env (eval o X.env)=eval o X.env:=by rfl)
    (hfew:((backTo cpos (starEach (e::es) X.env)).all (fun x => !x.1)&&(backToKw cpos (keywordEach [] X.env)).all (fun x=>x.1.isSome)
      && decide ((e::es).length+([]:List Keyword).length+(if ([]:List Keyword).isEmpty then 0 else 1)<30))=true:=by rfl)
    (hline:(apos.endLine==cpos.line)=true:=by rfl) (hs:starEach (e::es) X.env=(false,eval e X.env)::starEach es X.env:=by rfl) (hplain:(backTo cpos (starEach es X.env)).any (·.1)=false:=by rfl) :
    PE X (.Call (.Attribute o name apos) (e::es) [] cpos) (tBM X.K T r to t):=by
  intro pins s σ H Q I h;refine wpAny_Call_method_late hbase hfew hline rfl (thn (ho pins s σ H _ I h) fun v s1 ⟨x,H1,I1,r1,ty,q1⟩ => ?_);obtain⟨h1,h2⟩:=tyV_is I1 r1 ty;refine⟨T,id,pa,slot,hty,h1,h2,?_⟩;have hA:=ha cpos pins s1 σ H1 _ I1 q1;rw[hs]at hA ⊢;refine Calls.callWith_builtin (by show(false||(backTo cpos (starEach es X.env)).any (·.1))=false;rw[hplain] <;> rfl) (Calls.evalArgs_plain ?_);exact thn hA fun us s2 ⟨vs,H2,I2,r2,q2⟩=>hm pins s2 σ H2 x vs v us Q I2 r1 r2 q2
end
end L2
namespace L2
open PySem PySem.Spec PyProof.Rows
def MtM(X:Cx)(id:String)(r:V->List V->Hp->VK->Prop):Prop :=
  ∀(pins:List (Addr×Obj)) (s:Shared) (σ:St) (H:Hp) (x:V) (xs:List V) (v:Value) (us:List Value) (Q:VK),Inv X pins σ H s->RelV x v->Vals xs us->r x xs H Q ->
    wpAny (model X.prog X.w) X.A (call (.builtin id) (v::us)) (EP X pins σ Q) X.xe s
theorem Vals.one:∀{x:V} {us:List Value},Vals [x] us->∃u,us=[u]/\RelV x u
  | _,_,.cons r .nil=>⟨_,rfl,r⟩
theorem Vals.two:∀{x y:V} {us:List Value},Vals [x,y] us->∃u v,us=[u,v]/\RelV x u/\RelV y v
  | _,_,_,.cons r (.cons q .nil)=>⟨_,_,rfl,r,q⟩
section
variable{X:Cx}{pins:List (Addr×Obj)}{σ:St}{H:Hp}{s:Shared}{l b:Addr}{xs ys zs:List V}
theorem Inv.lset{its its':List Value}{n:Nat}{f:Array Value->Array Value}{t':Nat}(I:Inv X pins σ H s)(hH:H l=some (.lst xs))
    (e:s.heap.get? l=some { cls:=.type "list", data:=.seq its.toArray n }) (hf:f its.toArray=its'.toArray) (hv:Vals ys its') (hz:ys.length<=sizeLine) :
    Inv X pins σ (upd H l (.lst ys)) { s with heap:=s.heap.update l (Obj.mapSeq f),toks:=t' }:=by
  have q:=PySem.IsL.update e f;rw[hf]at q;refine I.write (x:=l) (e:=l) (by rw[hH];exact trivial) (.inl rfl) (fun b' u hb hu=>(Heap.get?_update_other s.heap (Obj.mapSeq f) (Ne.symm hb)).trans hu) ⟨_,q⟩ ?_;exact⟨hz,its',_,hv,q⟩
theorem Inv.lnew{its:List Value}{t':Nat}(I:Inv X pins σ H s)(hv:Vals ys its)(hz:ys.length<=sizeLine) :
    Inv X pins σ (upd H s.heap.objs.size (.lst ys)) { s with heap:=s.heap.push { cls:=.type "list", data:=.seq its.toArray },toks:=t' } :=
  I.laid (fun _ _ q=>Heap.get?_push_of_some _ q) (Zm _) ⟨hz,its,0,hv,Heap.get?_push_size _ rfl⟩
theorem Inv.fresh(I:Inv X pins σ H s):H s.heap.objs.size=none:=I.hok.fresh (Zm _)
theorem Inv.lstM(I:Inv X pins σ H s)(hH:H l=some (.lst xs)):xs.length<=sizeLine/\∃(its:List Value) (n:Nat),Vals xs its/\xs.length=its.length/\s.heap.get? l=some { cls:=.type "list", data:=.seq its.toArray n }:=by
  obtain⟨z,its,n,r,e⟩:=I.hok l _ hH;exact⟨z,its,n,r,r.length,e⟩
theorem zks{n:Nat}(h:n<=sizeLine):Builtin.List.listTooLong n=false:=by
  unfold Builtin.List.listTooLong;exact decide_eq_false (by omega)
end
section
variable{X:Cx}
def zew:V->List V->Hp->VK->Prop:=fun x vs H Q=>∃l xs y,x=.ref l/\vs=[y]/\H l=some (.lst xs)/\xs.length<sizeLine/\Q .non (upd H l (.lst (xs++[y])))
theorem je:MtM X "list.append" zew:=by
  intro pins s σ H x vs v us Q I rx rv h;obtain⟨l,xs,y,rfl,rfl,hH,hz,q⟩:=h;cases rx;obtain⟨u,rfl,ru⟩:=rv.one;obtain⟨z,its,n,r,hl,e⟩:=I.lstM hH;refine call_meets F.slot_list_append ⟨_,e,rfl⟩ F.entry_list_append (F.args_list_append_2 _ _) (PySem.list_append l its.toArray n u (by rw[Zr];omega)) ⟨e,?_⟩;refine⟨.non,_,I.lset (its':=its++[u]) hH e (by simp) (r.append (.cons ru .nil)) ?_,rfl,q⟩;rw[Zo,YT];omega
def zfk:V->List V->Hp->VK->Prop:=fun x vs H Q=>∃l b xs zs,x=.ref l/\vs=[.ref b]/\H l=some (.lst xs)/\H b=some (.lst zs)/\xs.length+zs.length<=sizeLine/\Q .non (upd H l (.lst (xs++zs)))
theorem za4:MtM X "list.extend" zfk:=by
  intro pins s σ H x vs v us Q I rx rv h;obtain⟨l,b,xs,zs,rfl,rfl,hH,hB,hz,q⟩:=h;cases rx;obtain⟨u,rfl,ru⟩:=rv.one;cases ru;obtain⟨z,its,n,r,hl,e⟩:=I.lstM hH;obtain⟨z2,its2,n2,r2,hl2,e2⟩:=I.lstM hB;have hsz:its.toArray.size+its2.toArray.size<=sizeLine:=by rw[Zr,Zr];omega
  have hlong:¬(!its.toArray.isEmpty&&Builtin.List.listTooLong (its.toArray.size+its2.toArray.size))=true:=by
    rw[zks hsz,Bool.and_false];exact Bool.false_ne_true
  refine call_meets F.slot_list_extend ⟨_,e,rfl⟩ F.entry_list_extend (F.args_list_extend_2 _ _)
    (AutoSeq1.list_extend_list_list_0 l its.toArray n b its2.toArray n2 hlong (by rw[Zr];omega) (by omega)) ⟨e,e2,?_⟩
  refine⟨.non,_,I.lset (its':=its++its2) hH e (by simp) (r.append r2) ?_,rfl,q⟩;rw[Zo];omega
def rCat:R2:=fun x y H Q=>∃l b xs zs,x=.ref l/\y=.ref b/\H l=some (.lst xs)/\H b=some (.lst zs)/\xs.length+zs.length<=sizeLine/\∀p,H p=none->Q (.ref p) (upd H p (.lst (xs++zs)))
theorem zc2:OpR X (binaryOp .Add) rCat:=by
  intro pins s σ H x y v u Q I rx ry h;obtain⟨l,b,xs,zs,rfl,rfl,hH,hB,hz,q⟩:=h;cases rx;cases ry;obtain⟨z,its,n,r,hl,e⟩:=I.lstM hH;obtain⟨z2,its2,n2,r2,hl2,e2⟩:=I.lstM hB;refine PySem.P.add_list e e2 ?_ (by rw[Zr,Zr];omega);have ea:its.toArray++its2.toArray=(its++its2).toArray:=by simp
  rw[ea];exact⟨.ref _,_,I.lnew (t':=s.toks) (r.append r2) (by rw[Zo];omega),rfl,q _ I.fresh⟩
def rRep:R2:=fun x y H Q=>∃l k xs,x=.ref l/\y=.int k/\H l=some (.lst xs) /\ -(2^63)<=k/\k<2^63/\xs.length*k.toNat<=sizeLine /\
  ∀p,H p=none->Q (.ref p) (upd H p (.lst (List.replicate k.toNat xs).flatten))
end
section
variable{prog:Program}{w:World}{A:Around}{E:Value->Shared->Prop}{s:Shared}
set_option maxRecDepth 100000 in
end
section
variable{X:Cx}
end
end L2
namespace Att
open PySem PySem.W PySem.Calls PyProof.Rows
theorem a7{P:Params}{h:Heap}:∀(ns:List Int) (vs:List Value),WellAll P h vs (ns.map WData.int)->IntsAre vs ns:=by
  intro ns
  induction ns with
  | nil =>
    intro vs w;rw[Xf]at w;cases w;exact .nil
  | cons n ns ih =>
    intro vs w;rw[ZL]at w
    cases w with
    | cons a b =>
      cases a;exact .cons _ _ (ih _ b)
theorem zi7{l:OpenLaw}{n:Nat}(hn:l.most=some n){P:Params}{h:Heap}{args:List WData}{vals:List Value}
    (hpre:l.row.toRowW.claim.pre args=true) (hwl:WellAll P h vals args) :
    ∃a vs ns,vals=[Value.ref a]/\args=[WData.list (ns.map WData.int)]/\h.get? a=some { cls:=.type "list", data:=.seq vs.toArray }/\IntsAre vs ns/\ns.length<=n:=by
  have hsh:WShape.hasAll [] args [.list .int]=true:=(pre_splitW hpre).1;have hc:l.pre.holds [] { args:=args }=true:=(pre_splitW hpre).2;obtain⟨d,r,rfl,h1,h2⟩:=hasAllW_cons hsh;obtain rfl:=hasAllW_nil h2;obtain⟨xs,rfl,h3⟩:=hasW_list h1;obtain⟨ns,rfl⟩:=items_int h3
  have hlen:ns.length<=n:=by
    unfold OpenLaw.pre at hc
    have h4:(WTm.not (.lt (.lit (.int (n:Int))) (.len (.arg 0)))).holds [] { args:=[.list (ns.map .int)] }=true:=by
      have h4:=(holds_andW hc).1;rw[hn]at h4;exact h4
    have h5:=condW_of h4 (w_not (w_lt w_lit (w_len_list (w_arg rfl))));rw[Za]at h5;refine Nat.le_of_not_lt fun q => ?_
    have q':(n:Int)<((ns.length:Nat):Int):=by omega
    first
      | (rw[decide_eq_true q']at h5;exact absurd h5 (by decide))
      | (simp at h5;omega)
  cases hwl with
  | cons w1 w2 =>
    cases w2
    cases w1 with
    | list ho hall=>exact⟨_,_,ns,rfl,rfl,ho,a7 ns _ hall,hlen⟩
theorem zh9(l:OpenLaw)(args:List WData):l.row.toRowW.claim.post args (.bool true) args=true :=
  postW_of (r:=l.row.toRowW) (X:=(true==true))
    (show WShape.has [] (.bool true) .bool=true by first | rfl | decide | simp[WShape.has,WShape.arms,WShape.armsAll])
    (show(WTm.eq .res (.lit (.bool true))).value [] { args:=args,res:=some (.bool true),after:=args }=some (.bool (true==true)) from w_eq_bool (w_res rfl) w_lit) rfl
theorem zei{l:OpenLaw}{n:Nat}{q:Program}{loose:List Str}{XP:(Str->Option Value)->Heap->Prop}{YP:World->Heap->Prop}{d:DefRec}
    (hn:l.most=some n) (hdf:d.params.defaults=[])
    (call:∀(w:World) (s₀ s₁:Shared) (mg mb:Str->Option Value) (fa:Addr) (o:Obj) (pm cd doc:Value) (a:Addr) (vs:List Value) (ns:List Int),
      Ground q loose [] XP w s₀ mg mb s₁.heap->YP w s₁.heap ->
      s₁.heap.get? fa=some o->o.data=.func (docDef d.name d.params d.body d.scope pm cd doc)->s₁.heap.CodeRec cd d.name->mg d.name=some (.ref fa) ->
      s₁.heap.get? a=some { cls:=.type "list", data:=.seq vs.toArray }->IntsAre vs ns->ns.length<=n->s₁.gens = #[] ->
      codeAny (model l.prog w) callerA (.call (.ref fa) ⟨[.ref a],[]⟩) (fun r s'=>r=.ok (.ret (.bool true))/\OldK s₁.heap s'.heap/\s'.os=s₁.os/\AllBare s'.gens) s₁) :
    WalkO q loose XP YP l.row.toRowW d [] (fun f vs=>PySem.call f vs):=by
  intro w s₀ s₁ mg mb G Y fa o pm cd doc dV kV ho hd hcd hD hmg hg args vals as hpre hlay hrd hwl hlo;obtain rfl:dV=.none:=Dflts.none hD hdf;obtain rfl:kV=.none:=Dflts.noKw hD;obtain⟨a,vs,ns,rfl,rfl,hobj,hints,hlen⟩:=zi7 hn hpre hwl;refine enter_call (codeAny_mono (call w s₀ s₁ mg mb fa o pm cd doc a vs ns G Y ho (fd_plain hd) hcd hmg hobj hints hlen hg) fun r s' hq => ?_);obtain⟨rfl,h2,h3,h4⟩:=hq;exact⟨.inl ⟨.bool true,.bool true,[],rfl,fun _=>rfl,.bool true,zh9 l _,fun _=>⟨List.Pairwise.nil,fun _ hm=>(nomatch hm)⟩⟩,h2,h3,h4⟩
section
variable{prog:Program}{w:World}{A:Around}{E:Value->Shared->Prop}{s:Shared}{K:Frag}
end
end Att
namespace L2
open PySem PySem.Spec PyProof.Rows
theorem zbg:∀{vs:List Value} {ns:List Int},IntsAre vs ns->Vals (ns.map V.int) vs
  | _,_,.nil=>.nil
  | _,_,.cons n t h=>.cons ⟨t,rfl⟩ (zbg h)
def Only(H:Hp):Prop:=∀b,H b=none\/∃o xs,H b=some (.frz o (.lst xs))
theorem zkn{P:Program}{w:World}{K:Fg}{mg mb:Str->Option Value}{CX:CXT}{k:Nat}{fa a:Addr}{fd:FuncData}{x:Str}{sp:Sp}{s₁:Shared}{vs:List Value}{ns:List Int}
    (KX:K.In s₁.heap) (hns:s₁.heap.Ns mainGlobals mg) (hb:s₁.heap.Ns builtinsNs mb) (hbb:∀x:Str,x ≠ "__name__" -> mb x=bootBuiltins x) (hlim:s₁.heap.NoLimit) (hg:s₁.gens = #[])
    (ha:s₁.heap.get? a=some { cls:=.type "list", data:=.seq vs.toArray }) (hi:IntsAre vs ns) (hl:ns.length<=sizeLine) (hr:Room k callerA)
    (F:∀base:Heap,K.In base->base.Ns mainGlobals mg->FnOk P w K mg base CX k fa fd [x] sp) (hbind:∀(s:Shared) (u:Value),BindsTo s fd ⟨[u],[]⟩ [(x,u)])
    (hsp:∀H:Hp,Only H->SqL K H a (ns.map V.int)->sp [.ref a] H (fun v _=>v=.bl true) fun _ _ _=>False)
    (hCX:∀H e s',CX [] H s₁ (fun _ _ _=>False) e s'->False) :
    codeAny (model P w) callerA (.call (.ref fa) ⟨[.ref a],[]⟩) (fun r s'=>r=.ok (.ret (.bool true))/\OldK s₁.heap s'.heap/\s'.os=s₁.os/\AllBare s'.gens) s₁:=by
  have rv:=zbg hi;have lenV:=hi.length
  -- from an abstract heap in which nothing but the script may be tracked
  have core:∀H:Hp,Only H->SqL K H a (ns.map V.int)->HOk P w H s₁.heap->(∀b,H b≠none->b=a)->(H a≠none->K.lookup a=none) ->
      codeAny (model P w) callerA (.call (.ref fa) ⟨[.ref a],[]⟩) (fun r s'=>r=.ok (.ret (.bool true))/\OldK s₁.heap s'.heap/\s'.os=s₁.os/\AllBare s'.gens) s₁:=by
    intro H hO hS hok hA hK;have base_of:∀{b:Addr} {o:Obj},s₁.heap.get? b=some o->H b=none->(hidT s₁.heap H).get? b=some o:=fun e n=>zkz e n
    have noA:∀{b:Addr} {o:Obj} {es:Array DictEntry} {ep:Nat},s₁.heap.get? b=some o->o.data=.dict es ep->H b=none:=fun {b o es ep} e d=>by
      cases q:H b with
      | none=>rfl
      | some u =>
        have e':b=a:=hA b (by rw[q];simp);subst e';rw[ha]at e;cases e;have d':Data.seq vs.toArray _=Data.dict es ep:=d;cases d'
    have nsK:∀{b:Addr} {m:Str->Option Value},s₁.heap.Ns b m->(hidT s₁.heap H).Ns b m:=fun {b m} ⟨o,es,ep,e,d,r⟩=>⟨o,es,ep,base_of e (noA e d),d,r⟩
    have hKb:K.In (hidT s₁.heap H):=fun b o e=>base_of (KX b o e) (by
      cases q:H b with
      | none=>rfl
      | some u =>
        have e':b=a:=hA b (by rw[q];simp);subst e'
        rw[hK (by rw[q];simp)]at e;cases e)
    have hM:Mod K mg (hidT s₁.heap H):=⟨hKb,nsK hns,⟨mb,nsK hb,hbb⟩,let ⟨mc,h1,h2⟩:=hlim;⟨mc,nsK h1,h2⟩⟩;have e0:Env0 P w K mg (hidT s₁.heap H) callerA [] s₁ H:=⟨rfl,hM,fun b o e=>zk9 e,Nat.le_of_eq (zhw _ _),trivial,fun b hb=>absurd (show b∈([]:List Addr) from hb) (by simp),hok,.of_eq hg⟩;refine codeAny_mono ((F _ hKb (nsK hns)).run callerA [] s₁ H ⟨[.ref a],[]⟩ [.ref a] [.ref a] _ _ hr e0 (hbind s₁ (.ref a)) (.cons rfl .nil) (hsp H hO hS)) fun r s' h => ?_
    cases r with
    | error e=>exact(hCX H e s' h).elim
    | ok fl =>
      cases fl with
      | next=>exact False.elim h
      | brk=>exact False.elim h
      | cont=>exact False.elim h
      | ret u =>
        obtain⟨v,H',os,bare,un,hok',r',q⟩:=h;have q':v=.bl true:=q;subst q';obtain rfl:u=Value.bool true:=r';refine⟨rfl,OldK.of_keep fun b o e => ?_,os,bare⟩
        cases q:H b with
        | none=>exact un.keep b o e q (by intro z;exact absurd (show b∈([]:List Addr) from z) (by simp)) (by simp)
        | some u =>
          rcases hO b with z | ⟨ob,xs,z⟩
          . rw[q]at z;cases z
          . have z2:=un.frzs b ob _ z
            obtain⟨e1,_⟩:=hok b _ z;obtain⟨e2,_⟩:=hok' b _ z2;rw[e]at e1;cases e1;exact e2
  cases hk:K.lookup a with
  | some o =>
    -- the script is one of the module's own objects
    have e:=KX a o hk;rw[ha]at e;cases e;refine core (fun _=>none) (fun _=>.inl rfl) (.inr ⟨_,vs.toArray,_,hk,rfl,rfl,rfl,by rw[Zr,lenV];exact hl,by simpa using rv⟩) (fun b u z=>by have z':(none:Option HO)=some u:=z;cases z') (fun b z=>absurd rfl z) fun z=>absurd rfl z
  | none =>
    refine core (fun b=>if b=a then some (.frz { cls:=.type "list", data:=.seq vs.toArray } (.lst (ns.map V.int))) else none) (fun b => ?_) (.inl (.inr ⟨{ cls:=.type "list", data:=.seq vs.toArray },if_pos rfl⟩)) (fun b u z => ?_) (fun b z => ?_) fun _=>hk
    . by_cases hb:b=a
      . exact .inr ⟨_,_,if_pos hb⟩
      . exact .inl (if_neg hb)
    . by_cases hb:b=a
      . have z':=(if_pos hb).symm.trans z
        cases z';subst hb;exact⟨ha,by rw[Za];exact hl,vs,_,rv,ha⟩
      . have z':=(if_neg hb).symm.trans z
        cases z'
    . by_cases hb:b=a
      . exact hb
      . exact absurd (if_neg hb) z
end L2
namespace L2
open PySem PySem.Spec PyProof.Rows
abbrev KOf{K:Fg}{h:Heap}(_:K.In h):Fg:=K
theorem zmp{l:PySem.W.OpenLaw}{n k:Nat}{q:Program}{loose:List Str}{XP:(Str->Option Value)->Heap->Prop}{YP:World->Heap->Prop}{d:DefRec}{K:Params->Fg}{CX:World->CXT}{sp:World->Sp}{x:Str}
    (hn:l.most=some n) (hn2:n<=sizeLine) (hdf:d.params.defaults=[]) (hr:Room k callerA)
    (hY:∀(w:World) (h:Heap),YP w h->(K w.params).In h)
    (F:∀(w:World) (mg:Str->Option Value) (fa:Addr) (h:Heap),(K w.params).In h->h.Ns mainGlobals mg->mg d.name=some (.ref fa) ->
      ∃fd:FuncData,(∀(s:Shared) (u:Value),BindsTo s fd ⟨[u],[]⟩ [(x,u)]) /\
        ∀base:Heap,(K w.params).In base->base.Ns mainGlobals mg->FnOk l.prog w (K w.params) mg base (CX w) k fa fd [x] (sp w))
    (hsp:∀(w:World) (H:Hp) (a:Addr) (ns:List Int),ns.length<=n->Only H->SqL (K w.params) H a (ns.map V.int)->sp w [.ref a] H (fun v _=>v=.bl true) fun _ _ _=>False)
    (hCX:∀(w:World) (H:Hp) (s:Shared) (e:Value) (s':Shared),CX w [] H s (fun _ _ _=>False) e s'->False) :
    PySem.W.WalkO q loose XP YP l.row.toRowW d [] (fun f vs=>PySem.call f vs):=by
  refine Att.zei hn hdf fun w s₀ s₁ mg mb fa o pm cd doc a vs ns G Y ho hd hcd hmg hobj hints hlen hg => ?_
  have KX:=hY w _ Y;obtain⟨fd,hb,hF⟩:=F w mg fa _ KX G.T.g hmg;exact zkn KX G.T.g G.T.b G.T.builtins G.T.nolimit hg hobj hints (Zd hlen hn2) hr hF hb (fun H hO hS=>hsp w H a ns hlen hO hS) fun H e s'=>hCX w H s₁ e s'
theorem zkb{l:PySem.W.OpenLaw}{n k:Nat}{q:Program}{loose:List Str}{XP:(Str->Option Value)->Heap->Prop}{YP:World->Heap->Prop}{d:DefRec}{K:Params->Fg}{CX:CXT}{sp:Fg->Sp}{x:Str}
    (hn:l.most=some n) (hn2:n<=sizeLine) (hdf:d.params.defaults=[]) (hr:Room k callerA)
    (hY:∀(w:World) (h:Heap),YP w h->(K w.params).In h)
    (F:∀(w:World) (mg:Str->Option Value) (fa:Addr) (h:Heap),(K w.params).In h->h.Ns mainGlobals mg->mg d.name=some (.ref fa) ->
      ∃fd:FuncData,(∀(s:Shared) (u:Value),BindsTo s fd ⟨[u],[]⟩ [(x,u)]) /\
        ∀base:Heap,(K w.params).In base->base.Ns mainGlobals mg->FnOk l.prog w (K w.params) mg base CX k fa fd [x] (sp (K w.params)))
    (hsp:∀(K:Fg) (H:Hp) (a:Addr) (ns:List Int),ns.length<=n->Only H->SqL K H a (ns.map V.int)->sp K [.ref a] H (fun v _=>v=.bl true) fun _ _ _=>False)
    (hCX:∀(H:Hp) (s:Shared) (e:Value) (s':Shared),CX [] H s (fun _ _ _=>False) e s'->False) :
    PySem.W.WalkO q loose XP YP l.row.toRowW d [] (fun f vs=>PySem.call f vs) :=
  zmp (K:=K) (CX:=fun _=>CX) (sp:=fun w=>sp (K w.params)) hn hn2 hdf hr hY F (fun w H a ns h1 h2 h3=>hsp (K w.params) H a ns h1 h2 h3) fun _ H s e s'=>hCX H s e s'
end L2
namespace L2
open PySem PySem.Spec PyProof.Rows
def rg(s:Stmt):Arguments:=match s with
  | .FunctionDef _ a _ _ _ _ _ _ _ _=>a
  | _=>{ posonlyargs:=[],args:=[],vararg:=none,kwonlyargs:=[],kw_defaults:=[],kwarg:=none,defaults:=[] }
def xf(s:Stmt):List Stmt:=match s with
  | .FunctionDef _ _ b _ _ _ _ _ _ _=>b
  | _=>[]
def zk(s:Stmt):Scope:=match s with
  | .FunctionDef _ _ _ _ _ _ sc _ _ _=>sc
  | _=>{ kind:=.function,names:=[],isGenerator:=false,isCoroutine:=false }
abbrev CX0:CXT:=fun _ _ _ _ _ _=>False
abbrev E0:XK:=fun _ _ _=>False
theorem pass0{X:Cx}:fv CX0 X E0:=fun _ _ _ _ _ _ _ h=>h.elim
structure Fun(K:Fg)(x qual:Str)(st:Stmt)(f:Addr)(fd:FuncData):Prop where
  ex:∃(oc:Value) (od:Option Addr) (kV doc pm:Value) (an:Option Addr) (cdv ct:Value) (osl:Array (Option Value)),
    fd=PySem.W.fnOf x qual (rg st) (xf st) (zk st) .none kV doc pm an cdv ct/\K.lookup f=some ⟨oc,od,.func fd,osl⟩/\PySem.W.codeIn K cdv qual=true
  kp:PySem.W.keepIn K (.ref f)=true
section
variable{P:Program}{w:World}{K:Fg}{mg:Str->Option Value}{base:Heap}
theorem Fun.ok{x qual:Str}{st:Stmt}{f:Addr}{fd:FuncData}{N ps:List Str}{k:Nat}{sp:Sp}(F:Fun K x qual st f fd)(S:zr N ps (zk st))(len:∀vs H Q E,sp vs H Q E->vs.length=ps.length)
    (hbody:∀(cdv:Value) (A:Around) (outer:List Env) (s:Shared) (H:Hp) (vs:List V) (Q:VK) (E:XK),Room k (A.deeper (envOfC qual (zk st) s.heap.objs.size f cdv))->sp vs H Q E ->
      ∃t,PSs (cxOf CX0 P w K mg base N qual (zk st) f cdv A outer s H E).nox (xf st) t/\t { nx:=fun _ H'=>Q .non H',rt:=Q } (start N vs) H):FnOk P w K mg base CX0 (k+1) f fd ps sp:=by
  obtain⟨oc,od,kV,doc,pm,an,cdv,ct,osl,rfl,lk,hcd⟩:=F.ex;refine fn_of lk hcd S len fun A outer s H vs Q E hr hsp => ?_
  obtain⟨t,h,q⟩:=hbody cdv A outer s H vs Q E hr hsp;exact⟨t,h.nox,q⟩
theorem Fun.binds{x qual:Str}{st:Stmt}{f:Addr}{fd:FuncData}{ps:List Str}(F:Fun K x qual st f fd)
    (h:∀(kV doc pm:Value) (an:Option Addr) (cdv ct:Value) (us:List Value),us.length=ps.length->bindArgs (PySem.W.fnOf x qual (rg st) (xf st) (zk st) .none kV doc pm an cdv ct) ⟨us,[]⟩=pure (ps.zip us)):Binds K fd ps []:=by
  obtain⟨oc,od,kV,doc,pm,an,cdv,ct,osl,rfl,lk,hcd⟩:=F.ex;exact .all (h kV doc pm an cdv ct)
theorem zhj{x qual:Str}{st:Stmt}{f:Addr}{oc:Value}{od an:Option Addr}{osl:Array (Option Value)}{kV doc pm cdv ct:Value}(l:K.lookup f=some ⟨oc,od,.func (PySem.W.fnOf x qual (rg st) (xf st) (zk st) .none kV doc pm an cdv ct),osl⟩)
    (c:PySem.W.codeIn K cdv qual=true) (k:PySem.W.keepIn K (.ref f)=true):Fun K x qual st f (PySem.W.fnOf x qual (rg st) (xf st) (zk st) .none kV doc pm an cdv ct):=⟨⟨oc,od,kV,doc,pm,an,cdv,ct,osl,rfl,l,c⟩,k⟩
end
section
variable{X:Cx}
theorem pv (i:Nat) {x:Str} {pos:Pos} (hN:X.N[i]? = some x:=by rfl) (hv:Vis X.env.scope x:=by first | exact Or.inl rfl | exact Or.inr (Or.inl rfl) | exact Or.inr (Or.inr rfl)) (hd:(x==("__debug__" : Str))=false:=by decide)
    (hcd:(x==("__classdict__" : Str))=false:=by decide):PE X (.Name x pos) (tVar i):=pe_var hN hv hd hcd
end
theorem iteF{A B:Prop}(h:B):if false=true then A else B:=by
  rw[if_neg Bool.false_ne_true];exact h
theorem iteT{A B:Prop}(h:A):if true=true then A else B:=by
  rw[if_pos rfl];exact h
theorem ite2{c A B:Prop}[Decidable c](h1:c->A)(h2:¬c->B):if c then A else B:=by
  by_cases h:c
  . rw[if_pos h]
    exact h1 h
  . rw[if_neg h]
    exact h2 h
theorem zf6{c A B:Prop}[Decidable c](hc:c)(h:B):if (!decide c)=true then A else B:=by
  rw[decide_eq_true hc];exact iteF h
def Same(H H':Hp):Prop:=∀b o,H b=some o->H' b=some o
theorem Same.refl(H:Hp):Same H H:=fun _ _ h=>h
theorem Same.trans{H H1 H2:Hp}(a:Same H H1)(b:Same H1 H2):Same H H2:=fun c o h=>b c o (a c o h)
theorem Same.free{H H':Hp}(e:Same H H'){l:Addr}(h:H' l=Option.none):H l=Option.none:=by
  cases q:H l with
  | none=>rfl
  | some o =>
    rw[e l o q]at h;cases h
theorem Same.seq{K:Fg}{H H':Hp}{a:Addr}{xs:List V}(e:Same H H')(h:SqL K H a xs):SqL K H' a xs:=by
  rcases h with (h | ⟨o,h⟩) | h
  . exact .inl (.inl (e _ _ h))
  . exact .inl (.inr ⟨o,e _ _ h⟩)
  . exact .inr h
end L2
namespace L2
open PySem PySem.Spec PyProof.Rows
section
variable{κ:Type}[DecidableEq κ]
def valV(kvs:List (κ×V))(k:κ):Option V:=(kvs.find? fun kv=>decide (kv.1=k)).map (·.2)
def putK(kvs:List (κ×V))(k:κ)(v:V):List (κ×V) :=
  if (kvs.any fun kv=>decide (kv.1=k))=true then kvs.map (fun kv=>if kv.1=k then(kv.1,v) else kv) else kvs++[(k,v)]
theorem pc{p:κ×V}{r:List (κ×V)}{k:κ}(e:p.1=k):valV (p::r) k=some p.2:=by simp[valV,Yt,e]
theorem u7{p:κ×V}{r:List (κ×V)}{k:κ}(e:¬p.1=k):valV (p::r) k=valV r k:=by simp[valV,Yt,e]
theorem iy(k:κ):∀kvs:List (κ×V),(kvs.any fun kv=>decide (kv.1=k))=(valV kvs k).isSome
  | []=>rfl
  | p::r=>by
    rw[YQ]
    by_cases e:p.1=k
    . simp only[pc e,decide_eq_true e,Bool.true_or,Option.isSome_some]
    . rw[u7 e,decide_eq_false e,Bool.false_or];exact iy k r
theorem jz(kvs:List (κ×V))(k:κ)(v:V):(putK kvs k v).length<=kvs.length+1:=by
  unfold putK
  split
  . rw[Za];omega
  . rw[Zo,ZM,Yq];omega
theorem kc{kvs:List (κ×V)}{k:κ}(v:V)(h:valV kvs k=none):putK kvs k v=kvs++[(k,v)]:=by
  unfold putK;rw[iy,h];exact if_neg (by decide)
theorem RelO.isSome_eq{o:Option V}{u:Option Value}(r:RelO o u):o.isSome=u.isSome:=by
  cases o with
  | none=>cases u with
    | none=>rfl
    | some _=>exact(show False from r).elim
  | some _=>cases u with
    | none=>exact(show False from r).elim
    | some _=>rfl
theorem RelO.getD{o:Option V}{u:Option Value}{d:V}{d':Value}(r:RelO o u)(rd:RelV d d'):RelV (o.getD d) (u.getD d'):=by
  cases o with
  | none=>cases u with
    | none=>exact rd
    | some _=>exact(show False from r).elim
  | some _=>cases u with
    | none=>exact(show False from r).elim
    | some _=>exact r
theorem KV.val{kvs:List (κ×V)}{vs:List (κ×Value)}(r:KV kvs vs)(k:κ):RelO (valV kvs k) (valueAt vs k):=by
  unfold KV at r
  induction r with
  | nil=>exact True.intro
  | @cons p q ps qs h t ih =>
    obtain⟨h1,h2⟩:=h
    by_cases e:p.1=k
    . have e':q.1=k:=h1.symm.trans e
      have b:valueAt (q::qs) k=some q.2:=by simp[valueAt,Yt,e']
      rw[pc e,b];exact h2
    . have e':¬q.1=k:=fun z=>e (h1.trans z)
      have b:valueAt (q::qs) k=valueAt qs k:=by simp[valueAt,Yt,e']
      rw[u7 e,b];exact ih
theorem KV.any{kvs:List (κ×V)}{vs:List (κ×Value)}(r:KV kvs vs)(k:κ):(kvs.any fun kv=>decide (kv.1=k))=vs.any fun kv=>decide (kv.1=k):=by
  unfold KV at r
  induction r with
  | nil=>rfl
  | cons h t ih=>rw[YQ,YQ,ih,h.1]
theorem KV.repl{kvs:List (κ×V)}{vs:List (κ×Value)}(r:KV kvs vs)(k:κ){y:V}{u:Value}(ry:RelV y u) :
    KV (kvs.map fun kv=>if kv.1=k then(kv.1,y) else kv) (vs.map fun kv=>if kv.1=k then(kv.1,u) else kv):=by
  unfold KV at r ⊢
  induction r with
  | nil=>exact .nil
  | @cons p q ps qs h t ih =>
    rw[ZL,ZL];refine .cons ?_ ih;obtain⟨h1,h2⟩:=h
    by_cases e:p.1=k
    . rw[if_pos e,if_pos (h1.symm.trans e)];exact⟨h1,ry⟩
    . rw[if_neg e,if_neg (fun z=>e (h1.trans z))];exact⟨h1,h2⟩
theorem KV.put{kvs:List (κ×V)}{vs:List (κ×Value)}(r:KV kvs vs)(k:κ){y:V}{u:Value}(ry:RelV y u):KV (putK kvs k y) (stored vs k u):=by
  unfold putK stored;rw[r.any k]
  by_cases e:(vs.any fun kv=>decide (kv.1=k))=true
  . rw[if_pos e,if_pos e];exact r.repl k ry
  . rw[if_neg e,if_neg e];exact Paired.snoc r ⟨rfl,ry⟩
theorem KV.length{kvs:List (κ×V)}{vs:List (κ×Value)}(r:KV kvs vs):kvs.length=vs.length:=Paired.length r
end
theorem df{P:Program}{w:World}{k:Key}{u:Value}(r:RelV (kV k) u):(yq P w).is k u=true:=by
  cases k with
  | inl i=>obtain⟨t,e⟩:=(show ∃t,u=Value.int i t from r);subst e;exact zec P w i t
  | inr x=>obtain⟨t,e⟩:=(show ∃t,u=Value.str x t from r);subst e;exact zd7 P w x t
theorem zbm{P:Program}{w:World}:∀{ks:List Key} {us:List Value},Vals (ks.map kV) us->ItemsAre (yq P w) ks us
  | [],_,r=>by rw[Xf]at r;cases r;exact .nil
  | k::ks,_,r=>by
    rw[ZL]at r
    cases r with
    | cons h t=>exact .cons (df h) (zbm t)
abbrev KT(H:Hp):List (List Key×V)->List (List Key×Addr×Value)->Prop:=Paired fun p q=>p.1=q.1/\H q.2.1=some (.tup (p.1.map kV))/\RelV p.2 q.2.2
theorem KT.val{H:Hp}{kvs:List (List Key×V)}{xs:List (List Key×Addr×Value)}(r:KT H kvs xs)(k:List Key):RelO (valV kvs k) ((atKey xs k).map (·.2)):=by
  induction r with
  | nil=>exact True.intro
  | @cons p q ps qs h t ih =>
    obtain⟨h1,_,h2⟩:=h
    by_cases e:p.1=k
    . have e':q.1=k:=h1.symm.trans e
      have b:atKey (q::qs) k=some q.2:=by simp[atKey,Yt,e']
      rw[pc e,b];exact h2
    . have e':¬q.1=k:=fun z=>e (h1.trans z)
      have b:atKey (q::qs) k=atKey qs k:=by simp[atKey,Yt,e']
      rw[u7 e,b];exact ih
theorem KT.repl{H:Hp}{kvs:List (List Key×V)}{xs:List (List Key×Addr×Value)}(r:KT H kvs xs)(k:List Key){y:V}{u:Value}(ry:RelV y u) :
    KT H (kvs.map fun kv=>if kv.1=k then(kv.1,y) else kv) (xs.map (putAt k u)):=by
  induction r with
  | nil=>exact .nil
  | @cons p q ps qs h t ih =>
    rw[ZL,ZL];refine .cons ?_ ih;obtain⟨h1,h2,h3⟩:=h;unfold putAt
    by_cases e:p.1=k
    . rw[if_pos e,if_pos (h1.symm.trans e)];exact⟨h1,h2,ry⟩
    . rw[if_neg e,if_neg (fun z=>e (h1.trans z))];exact⟨h1,h2,h3⟩
theorem KT.put{H:Hp}{kvs:List (List Key×V)}{xs:List (List Key×Addr×Value)}(r:KT H kvs xs)(k:List Key){b:Addr}{y:V}{u:Value}(hb:H b=some (.tup (k.map kV)))(ry:RelV y u) :
    KT H (putK kvs k y) (storedH xs k b u):=by
  have e:(kvs.any fun kv=>decide (kv.1=k))=(atKey xs k).isSome:=by
    rw[iy,(r.val k).isSome_eq,Option.isSome_map]
  unfold putK storedH;rw[e]
  by_cases q:(atKey xs k).isSome=true
  . rw[if_pos q,if_pos q];exact r.repl k ry
  . rw[if_neg q,if_neg q];exact Paired.snoc r ⟨rfl,hb,ry⟩
theorem KT.keeps{H H':Hp}{kvs:List (List Key×V)}{xs:List (List Key×Addr×Value)}(r:KT H kvs xs)(ht:∀b ys,H b=some (.tup ys)->H' b=some (.tup ys)):KT H' kvs xs :=
  Paired.mapP r fun _ _ z=>⟨z.1,ht _ _ z.2.1,z.2.2⟩
section
variable{P:Program}{w:World}{H:Hp}{h:Heap}{a:Addr}
theorem rd_of{u:HO}(ok:HOk P w H h)(e:Rd H a u):ObjOk P w H h a u:=e.ok ok
theorem gd{kvs:List (Key×V)}(ok:HOk P w H h)(e:Rd H a (.dK kvs)):kvs.length<=sizeLine/\(a==sysModules)=false/\∃vs,KV kvs vs/\h.DictOf (yq P w) a vs :=
  show ObjOk P w H h a (.dK kvs) from rd_of ok e
theorem zge{kvs:List (Key×V)}(ok:HOk P w H h)(e:H a=some (.dK kvs)):kvs.length<=sizeLine/\(a==sysModules)=false/\∃vs,KV kvs vs/\h.DictOf (yq P w) a vs:=gd ok (.inl e)
theorem ib{ks:List Key}(ok:HOk P w H h)(e:H a=some (.tup (ks.map kV))):(tupleKind (yq P w)).is h ks a:=by
  obtain⟨_,its,r,o,h1,h2,n,h3⟩:=(show ObjOk P w H h a (.tup (ks.map kV)) from ok a _ e);exact⟨o,its.toArray,n,h1,h2,h3.1,by simpa using zbm r⟩
theorem dk{kvs:List (List Key×V)}(ok:HOk P w H h)(e:Rd H a (.dT kvs)):kvs.length<=sizeLine/\(a==sysModules)=false /\
    ∃xs,KT H kvs xs/\h.DictOfH (tupleKind (yq P w)) a xs:=by
  obtain⟨z,y,xs,r,o,es,ep,h1,h2,h3,h4,h5⟩:=(show ObjOk P w H h a (.dT kvs) from rd_of ok e);refine⟨z,y,xs,r,o,es,ep,h1,h2,h3,h4,fun x hx => ?_,h5⟩
  have all:∀{l:List (List Key×V)} {m:List (List Key×Addr×Value)},KT H l m->∀x∈m,(tupleKind (yq P w)).is h x.1 x.2.1:=by
    intro l m q
    induction q with
    | nil=>intro x hx;exact nomatch hx
    | @cons p q ps qs hq t ih =>
      intro x hx
      rcases ZK.mp hx with e | hx
      . subst e
        exact ib ok (by rw[<-hq.1];exact hq.2.1)
      . exact ih x hx
  exact all r x hx
theorem zf5{kvs:List (List Key×V)}(ok:HOk P w H h)(e:H a=some (.dT kvs)):kvs.length<=sizeLine/\(a==sysModules)=false /\
    ∃xs,KT H kvs xs/\h.DictOfH (tupleKind (yq P w)) a xs:=dk ok (.inl e)
end
def DGet(H:Hp)(a:Addr)(y:V)(r:Option V):Prop :=
  (∃kvs k,Rd H a (.dK kvs)/\y=kV k/\r=valV kvs k)\/∃kvs k b,Rd H a (.dT kvs)/\y=.ref b/\H b=some (.tup (k.map kV))/\r=valV kvs k
def DPut(H:Hp)(a:Addr)(y v:V)(H':Hp):Prop :=
  (∃kvs k,H a=some (.dK kvs)/\y=kV k/\kvs.length<sizeLine/\H'=upd H a (.dK (putK kvs k v))) \/
  ∃kvs k b,H a=some (.dT kvs)/\y=.ref b/\H b=some (.tup (k.map kV))/\kvs.length<sizeLine/\H'=upd H a (.dT (putK kvs k v))
theorem DGet.k{H:Hp}{a:Addr}{kvs:List (Key×V)}{k:Key}(e:H a=some (.dK kvs)):DGet H a (kV k) (valV kvs k):=.inl ⟨kvs,k,.inl e,rfl,rfl⟩
theorem DGet.t{H:Hp}{a b:Addr}{kvs:List (List Key×V)}{k:List Key}(e:H a=some (.dT kvs))(eb:H b=some (.tup (k.map kV))):DGet H a (.ref b) (valV kvs k):=.inr ⟨kvs,k,b,.inl e,rfl,eb,rfl⟩
theorem DPut.t{H:Hp}{a b:Addr}{kvs:List (List Key×V)}{k:List Key}{v:V}(e:H a=some (.dT kvs))(eb:H b=some (.tup (k.map kV)))(hl:kvs.length<sizeLine) :
    DPut H a (.ref b) v (upd H a (.dT (putK kvs k v))):=.inr ⟨kvs,k,b,e,rfl,eb,hl,rfl⟩
section
variable{X:Cx}{pins:List (Addr×Obj)}{σ:St}{H:Hp}{s:Shared}{a:Addr}{y v:V}{u r:Value}{o:Option V}{A:Around}{E:Value->Shared->Prop}
theorem Inv.big(I:Inv X pins σ H s):sysModules<s.heap.objs.size:=by
  have h:mainGlobals<s.heap.objs.size:=(I.mod.glob.keeps I.bk).lt;exact Nat.lt_trans (by decide) h
theorem zie{Q:Value->Shared->Prop}(hu:A.units+1<cLine)(I:Inv X pins σ H s)(g:DGet H a y (some v))(ry:RelV y u)(h:∀w' s',Inv X pins σ H s'->RelV v w'->Q w' s') :
    wpAny (model X.prog X.w) A (getItem (.ref a) u) Q E s:=by
  rcases g with ⟨kvs,k,e,ey,l⟩ | ⟨kvs,k,b,e,ey,eb,l⟩
  . subst ey
    obtain⟨z,hd,vs,rel,dd⟩:=gd I.hok e;obtain⟨w',hw,rw'⟩:=RelO.some_of (v:=v) (o:=valueAt vs k) (by rw[l];exact rel.val k);exact wpAny_getItem_of (df ry) dd.mapOf hw (h w' _ (I.tok _) rw')
  . subst ey
    cases (show u=Value.ref b from ry);obtain⟨z,hd,xs,rel,dd⟩:=dk I.hok e;obtain⟨w',hw,rw'⟩:=RelO.some_of (v:=v) (o:=(atKey xs k).map (·.2)) (by rw[l];exact rel.val k);obtain⟨p,hp,hp2⟩:=YN.mp hw;refine wpAny_getItem_heap (tupleKind_room_in1 hu) (ib I.hok eb) dd hp ?_;rw[hp2];exact h w' _ (I.tok _) rw'
theorem d_in{Q:Value->Shared->Prop}(hu:A.units+1<cLine)(I:Inv X pins σ H s)(g:DGet H a y o)(ry:RelV y u)(h:∀s',Inv X pins σ H s'->Q (.bool o.isSome) s') :
    wpAny (model X.prog X.w) A (compareOp .In u (.ref a)) Q E s:=by
  rcases g with ⟨kvs,k,e,ey,l⟩ | ⟨kvs,k,b,e,ey,eb,l⟩
  . subst ey
    obtain⟨z,hd,vs,rel,dd⟩:=gd I.hok e;refine wpAny_in_of (df ry) hd dd.mapOf ?_;rw[<-(rel.val k).isSome_eq,<-l];exact h _ (I.tok _)
  . subst ey
    cases (show u=Value.ref b from ry);obtain⟨z,hd,xs,rel,dd⟩:=dk I.hok e;refine wpAny_in_heap (tupleKind_room_in1 hu) (ib I.hok eb) hd dd ?_;have q:=(rel.val k).isSome_eq;rw[Option.isSome_map]at q;rw[<-q,<-l];exact h _ (I.tok _)
theorem ik{h':Heap}{t':Nat}{ob:HO}(I:Inv X pins σ H s)(mu:Mut (H a))(hs:Heap.SameBut a s.heap h')(he:∃q,h'.get? a=some q)(new:ObjOk X.prog X.w (upd H a ob) h' a ob) :
    Inv X pins σ (upd H a ob) { s with heap:=h',toks:=t' } :=
  I.write (x:=a) (e:=a) mu (.inl rfl) (fun b q hb z=>(hs.2 b hb).trans z) he new
theorem dk_new{P:Program}{w:World}{H':Hp}{h':Heap}{kvs:List (Key×V)}{vs:List (Key×Value)}(z:kvs.length<=sizeLine)(hd:(a==sysModules)=false)(rel:KV kvs vs)(dd:h'.DictOf (yq P w) a vs) :
    ObjOk P w H' h' a (.dK kvs):=⟨z,hd,vs,rel,dd⟩
theorem zhv{H':Hp}{Q:Unit->Shared->Prop}(hu:A.units+1<cLine)(I:Inv X pins σ H s)(g:DPut H a y v H')(ry:RelV y u)(rv:RelV v r)(h:∀s',Inv X pins σ H' s'->Q () s') :
    wpAny (model X.prog X.w) A (setItem (.ref a) u r) Q E s:=by
  rcases g with ⟨kvs,k,e,ey,l,eH⟩ | ⟨kvs,k,b,e,ey,eb,l,eH⟩
  . subst ey eH
    obtain⟨z,hd,vs,rel,dd⟩:=zge I.hok e;have hz:vs.length<=sizeLine:=by rw[<-rel.length];exact z
    have hl:(putK kvs k v).length<=sizeLine:=by have:=jz kvs k v;omega
    refine wpAny_setItem_pairs (hsz:=hz) (df ry) dd fun h' dd' hs=>h _ ?_
    have he:∃q,h'.get? a=some q:=let ⟨q,_,_,hq,_⟩:=dd';⟨q,hq⟩;exact ik I (by rw[e];exact True.intro) hs he (dk_new hl hd (rel.put k rv) dd')
  . subst ey eH
    cases (show u=Value.ref b from ry);obtain⟨z,hd,xs,rel,dd⟩:=zf5 I.hok e;have hz:xs.length<=sizeLine:=by rw[<-Paired.length rel];exact z
    have hl:(putK kvs k v).length<=sizeLine:=by have:=jz kvs k v;omega
    refine wpAny_setItem_heap (hsz:=hz) (tupleKind_room_in1 hu) (ib I.hok eb) dd fun h' dd' hs=>h _ ?_
    obtain⟨q,es,ep,hq,h2,h3,h4,_,h5⟩:=dd';refine ik I (by rw[e];exact True.intro) hs ⟨q,hq⟩ ⟨hl,hd,_,(rel.put k eb rv).keeps fun c ys ec => ?_,q,es,ep,hq,h2,h3,h4,h5⟩;rw[zp (ne_of ec e (fun z=>nomatch z))];exact ec
end
section
variable{X:Cx}{pins:List (Addr×Obj)}{σ:St}{H:Hp}{s:Shared}{a:Addr}{kvs:List (Key×V)}{k:Key}{u:Value}{A:Around}{E:Value->Shared->Prop}
theorem d_len{Q:Value->Shared->Prop}(I:Inv X pins σ H s)(e:Rd H a (.dK kvs))(h:∀t s',Inv X pins σ H s'->Q (.int kvs.length t) s'):wpAny (model X.prog X.w) A (call (.builtin "len") [.ref a]) Q E s:=by
  obtain⟨z,hd,vs,rel,dd⟩:=gd I.hok e;refine call_len_dict hd dd (by rw[<-rel.length];rw[sizeLine_eq]at z;omega) ?_;rw[<-rel.length];exact h _ _ (I.tok _)
end
def NoSl(i:Expr):Prop:=∀ov iv,subscripted i false ov iv=operate [ov,iv] (getItem ov iv)
theorem zma{prog:Program}{w:World}{A:Around}{E:Value->Shared->Prop}{s:Shared}{env:Env}{value slice:Expr}{pos:Pos}{T id:String}{Q:Value->Shared->Prop}
    (hl:typeLookup (.type T) "__getitem__" = pure (some (.builtin id))) (hs:NoSl slice)
    (h:wpAny (model prog w) A (eval value env) (fun o s₁=>wpAny (model prog w) A (eval slice env) (fun i s₂=>s₂.TypeIs o T/\wpAny (model prog w) A (getItem o i) Q E s₂) E s₁) E s) :
    wpAny (model prog w) A (eval (.Subscript value slice pos) env) Q E s:=by
  refine Subscript_ (wpAny_mono h (fun o s₁ h₁=>wpAny_mono h₁ (fun i s₂ h₂ => ?_) fun _ _ x=>x) fun _ _ x=>x);obtain⟨hT,h₂⟩:=h₂;unfold subscriptTail;refine wpAny_bind ?_;rw[getitemInPython_of_ne hT.not_modules];refine wpAny_bind (wpAny_specialOf hT hl ?_)
  have fin:wpAny (model prog w) A (subscripted slice false o i) (fun r s₃=>wpAny (model prog w) A (letTemporaryGo value o r >>= fun _=>pure r) Q E s₃) E s₂:=by
    rw[hs o i];exact wpAny_operating (wpAny_mono h₂ (fun r s₃ h₃=>wpAny_bind (wpAny_letTemporaryGo (wpAny_pure h₃))) fun _ _ x=>x)
  first
    | exact wpAny_pure (wpAny_bind fin)
    | exact wpAny_bind (wpAny_pure (wpAny_bind fin))
    | exact wpAny_bind fin
theorem zea{X:Cx}{pins:List (Addr×Obj)}{σ:St}{H:Hp}{s:Shared}{a:Addr}{y:V}{o:Option V}(I:Inv X pins σ H s)(g:DGet H a y o):s.TypeIs (.ref a) "dict" := by
  rcases g with ⟨kvs,k,e,_,_⟩ | ⟨kvs,k,b,e,_,_,_⟩
  . obtain⟨_,_,vs,_,dd⟩:=gd I.hok e
    exact dd.typeIs
  . obtain⟨_,_,xs,_,dd⟩:=dk I.hok e
    exact dd.typeIs
def tDGet(td ty:TE):TE:=fun σ H Q=>td σ H fun x H1=>ty σ H1 fun y H2=>∃a v,x=.ref a/\DGet H2 a y (some v)/\Q v H2
section
variable{X:Cx}{o i e value:Expr}{pos pos' tpos:Pos}{td ty tv:TE}
theorem rf(hu:X.A.units+1<cLine)(ho:PE X o td)(hi:PE X i ty)(hs:NoSl i):PE X (.Subscript o i pos) (tDGet td ty):=by
  intro pins s σ H Q I h;refine zma PySem.F.slot_dict_getitem.lookup hs (thn (ho pins s σ H _ I h) fun u s1 ⟨x,H1,I1,rx,q1⟩=>thn (hi pins s1 σ H1 _ I1 q1) fun iv s2 ⟨y,H2,I2,ry,a,v,ex,g,q2⟩ => ?_);subst ex;obtain rfl:u=Value.ref a:=rx;exact⟨zea I2 g,zie hu I2 g ry fun w' s3 I3 rw'=>⟨v,H2,I3,rw',q2⟩⟩
end
theorem zjy{P:Program}{w:World}{H:Hp}(h:Heap)(hb:sysModules<h.objs.size):ObjOk P w H (h.push { cls:=.type "dict", data:=.dict #[] }) h.objs.size (.dT []) :=
  ⟨ZE _,beq_eq_false_iff_ne.mpr (Ne.symm (Zs hb)),[],.nil,_,#[],0,Heap.get?_push_size _ rfl,⟨rfl,rfl,rfl⟩,rfl,rfl,YJ⟩
def tDNewK:TE:=fun _ H Q=>∀p,H p=none->Q (.ref p) (upd H p (.dK []))
def zjh:TE:=fun _ H Q=>∀p,H p=none->Q (.ref p) (upd H p (.dT []))
section
variable{X:Cx}{pos:Pos}
theorem cj:PE X (.Dict [] [] pos) zjh:=fun pins s σ H Q I h =>
  wpAny_Dict_empty ⟨.ref s.heap.objs.size,_,I.laid (a:=s.heap.objs.size) (o:=.dT []) (t':=s.toks) (fun _ _ q=>Heap.get?_push_of_some _ q) (Zm _) (zjy s.heap I.big),rfl,h _ (I.hok.fresh (Zm _))⟩
end
structure M1(X:Cx)(o:Expr)(m:Str)(apos:Pos)(e:Expr)(cpos:Pos):Prop where
  base:attributeBase o m X.env (eval o X.env)=eval o X.env
  few:((backTo cpos (starEach [e] X.env)).all (fun x => !x.1)&&(backToKw cpos (keywordEach [] X.env)).all (fun x=>x.1.isSome)
    && decide (([e]:List Expr).length+([]:List Keyword).length+(if ([]:List Keyword).isEmpty then 0 else 1)<30))=true
  line:(apos.endLine==cpos.line)=true
  trees:backTo cpos (starEach [e] X.env)=[(false,eval e X.env)]
structure M2(X:Cx)(o:Expr)(m:Str)(apos:Pos)(e f:Expr)(cpos:Pos):Prop where
  base:attributeBase o m X.env (eval o X.env)=eval o X.env
  few:((backTo cpos (starEach [e,f] X.env)).all (fun x => !x.1)&&(backToKw cpos (keywordEach [] X.env)).all (fun x=>x.1.isSome)
    && decide (([e,f]:List Expr).length+([]:List Keyword).length+(if ([]:List Keyword).isEmpty then 0 else 1)<30))=true
  line:(apos.endLine==cpos.line)=true
  trees:backTo cpos (starEach [e,f] X.env)=[(false,eval e X.env),(false,eval f X.env)]
def IsD(H:Hp)(a:Addr):Prop:=(∃kvs,Rd H a (.dK kvs))\/∃kvs,Rd H a (.dT kvs)
theorem isD_at{X:Cx}{pins:List (Addr×Obj)}{σ:St}{H:Hp}{s:Shared}{a:Addr}(I:Inv X pins σ H s)(d:IsD H a) :
    s.TypeIs (.ref a) "dict" /\ (∀b,Value.ref a=.ref b->∃ob,s.heap.get? b=some ob/\ob.dict=none)/\(a==sysModules)=false:=by
  rcases d with ⟨kvs,e⟩ | ⟨kvs,e⟩
  . obtain⟨_,hd,vs,_,dd⟩:=gd I.hok e
    refine⟨dd.typeIs,fun b q => ?_,hd⟩;cases q;obtain⟨ob,_,_,h1,h2,_⟩:=dd;exact⟨ob,h1,h2.2.1⟩
  . obtain⟨_,hd,xs,_,dd⟩:=dk I.hok e
    refine⟨dd.typeIs,fun b q => ?_,hd⟩;cases q;obtain⟨ob,_,_,h1,h2,_⟩:=dd;exact⟨ob,h1,h2.2.1⟩
section
variable{X:Cx}{pins:List (Addr×Obj)}{σ:St}{H:Hp}{s:Shared}{a:Addr}{y d:V}{u r:Value}{o:Option V}{A:Around}{E:Value->Shared->Prop}
theorem d_get1{Q:Value->Shared->Prop}(hu:A.units+1<cLine)(I:Inv X pins σ H s)(g:DGet H a y o)(ry:RelV y u)(h:∀w' s',Inv X pins σ H s'->RelV (o.getD .non) w'->Q w' s') :
    wpAny (model X.prog X.w) A (call (.builtin "dict.get") [.ref a,u]) Q E s:=by
  rcases g with ⟨kvs,k,e,ey,l⟩ | ⟨kvs,k,b,e,ey,eb,l⟩
  . subst ey
    obtain⟨z,hd,vs,rel,dd⟩:=gd I.hok e;refine call_meetsIn PySem.F.slot_dict_get dd.typeIs PySem.F.entry_dict_get (PySem.F.args_dict_get_2 _ _) (meets_dict_get (yq X.prog X.w) a (df ry) hd) ⟨_,dd.mapOf,h _ _ (I.tok _) ?_⟩;rw[l];exact(rel.val k).getD rfl
  . subst ey
    cases (show u=Value.ref b from ry);obtain⟨z,hd,xs,rel,dd⟩:=dk I.hok e;refine call_meetsIn PySem.F.slot_dict_get dd.typeIs PySem.F.entry_dict_get (PySem.F.args_dict_get_2 _ _) (meetsH_dict_get (tupleKind (yq X.prog X.w)) a b hd) ⟨tupleKind_room_in1 hu,k,xs,ib I.hok eb,dd,h _ _ (I.tok _) ?_⟩;rw[l];exact(rel.val k).getD rfl
end
def zin(td ty:TE):TE:=fun σ H Q=>td σ H fun x H1=>∃a,x=.ref a/\IsD H1 a/\ty σ H1 fun y H2=>∃o,DGet H2 a y o/\Q (o.getD .non) H2
section
variable{X:Cx}{o e f:Expr}{apos cpos:Pos}{td ty tx:TE}
theorem zkd (hu:X.A.units+1<cLine) (ho:PE X o td) (he:PE X e ty) (m:M1 X o "get" apos e cpos):PE X (.Call (.Attribute o "get" apos) [e] [] cpos) (zin td ty):=by
  intro pins s σ H Q I h;refine wpAny_Call_method m.base m.few m.line PySem.F.plainAttrs_dict PySem.F.slot_dict_get PySem.F.type_dict_get (thn (ho pins s σ H _ I h) fun u s1 ⟨x,H1,I1,rx,a,ex,d,q1⟩ => ?_);subst ex;obtain rfl:u=Value.ref a:=rx;obtain⟨t1,t2,_⟩:=isD_at I1 d;refine⟨t1,t2,?_⟩;rw[m.trees];refine Calls.callWith_builtin rfl (Calls.evalArgs_plain (Calls.spliced_cons (thn (he pins s1 σ H1 _ I1 q1) fun iv s2 ⟨y,H2,I2,ry,ov,g,q2⟩=>Calls.spliced_nil ?_)));exact d_get1 hu I2 g ry fun w' s3 I3 rw'=>⟨_,H2,I3,rw',q2⟩
end
section
variable{X:Cx}{pins:List (Addr×Obj)}{σ:St}{H:Hp}{s:Shared}{a:Addr}{kvs:List (Key×V)}{A:Around}{E:Value->Shared->Prop}
end
section
variable{X:Cx}{pins:List (Addr×Obj)}{σ:St}{H:Hp}{s:Shared}{a:Addr}{y:V}{u:Value}{A:Around}{E:Value->Shared->Prop}
end
end L2
namespace L2
open PySem PySem.Spec PyProof.Rows
section
variable{X:Cx}
theorem zhz:ve X (.builtin "len") (fun xs H Q=>∃a kvs,xs=[V.ref a]/\H a=some (.dK kvs)/\Q (.int kvs.length) H):=by
  intro pins s σ H xs us Q I r h;obtain⟨a,kvs,rfl,ha,q⟩:=h;obtain⟨u,rfl,ru⟩:=tz r;cases ru;exact d_len I (.inl ha) fun t s' I'=>⟨.int kvs.length,H,I',⟨t,rfl⟩,q⟩
end
section
variable{κ:Type}[DecidableEq κ]
theorem da{kvs:List (κ×V)}{k:κ}{v:V}(h:valV kvs k=some v):k∈kvs.map (·.1):=by
  have q:(kvs.any fun kv=>decide (kv.1=k))=true:=by
    rw[iy,h]
    all_goals rfl
  obtain⟨p,hp,e⟩:=YR.mp q;exact Zp.mpr ⟨p,hp,of_decide_eq_true e⟩
end
end L2
namespace L2
open PySem PySem.Spec PyProof.Rows
def bz(ns:List (Str×NameKind))(y n:Str):Bool:=match ns.lookup y with
  | some .free=>y==n
  | some .local=>false
  | some .cell=>false
  | _=>true
def t8(ns:List (Str×NameKind)):List Str->List Str->Bool
  | [],[]=>true
  | y::ys,n::ms=>bz ns y n&&t8 ns ys ms
  | _,_=>false
def ic(ns:List (Str×NameKind))(env:Env):Bool:=ns.all fun y => !(y.2==.free)||(env.kindOf y.1==some .cell||env.kindOf y.1==some .free)
def gg(ns:List (Str×NameKind)):Bool:=ns.all fun y => !(y.2==.cell)&&(!(y.2==.local)||ns.lookup y.1==some .local)
theorem az{ns:List (Str×NameKind)}:∀{N2 N:List Str} {i:Nat} {y:Str},t8 ns N2 N=true->N2[i]? = some y->bz ns y y=true/\(ns.lookup y=some .free->N[i]? = some y)
  | [],[],_,_,_,e=>by simp at e
  | y'::ys,n::ms,0,y,h,e=>by
    simp at e;subst e;unfold t8 at h;rw[Bool.and_eq_true]at h;refine⟨?_,fun hf => ?_⟩
    . have h1:=h.1
      unfold bz at h1 ⊢
      split at h1 <;> first | rfl | (exact absurd h1 Bool.false_ne_true) | (exact beq_self_eq_true _)
    . have h1:=h.1
      unfold bz at h1;rw[hf]at h1;have e:y'=n:=eq_of_beq h1;simp[e]
  | y'::ys,n::ms,i+1,y,h,e=>by
    unfold t8 at h;rw[Bool.and_eq_true]at h;obtain⟨h1,h2⟩:=az (i:=i) (y:=y) h.2 (by simpa using e);exact⟨h1,fun hf=>by simpa using h2 hf⟩
  | [],_::_,_,_,h,_=>by cases h
  | _::_,[],_,_,h,_=>by cases h
theorem gi{ns:List (Str×NameKind)}{env:Env}(h:ic ns env=true){y:Str×NameKind}(hy:y∈ns)(hf:y.2=.free):env.kindOf y.1=some .cell\/env.kindOf y.1=some .free:=by
  have q:=ZR.mp h y hy;rw[hf]at q
  simpa using q
theorem aj{ns:List (Str×NameKind)}(h:gg ns=true):∀y∈ns,y.2≠.cell:=fun y hy e=>by
  have q:=ZR.mp h y hy;rw[e]at q;simp at q
theorem d6{ns:List (Str×NameKind)}(h:gg ns=true):∀y∈ns,y.2=.local->ns.lookup y.1=some .local:=fun y hy e=>by
  have q:=ZR.mp h y hy;rw[e]at q
  simpa using q
theorem qx{env:Env}{x:Str}:∀{ns:List (Str×NameKind)},(ns.map fun(n,k)=>if (k==NameKind.free&&env.scope.kind==.function&&env.kindOf n==some .cell) then(n,NameKind.cell) else(n,k)).lookup x =
    (ns.lookup x).map fun k=>if (k==NameKind.free&&env.scope.kind==.function&&env.kindOf x==some .cell) then NameKind.cell else k
  | []=>rfl
  | (n,k)::r=>by
    have ih:=@qx env x r
    show List.lookup x ((if (k==NameKind.free&&env.scope.kind==.function&&env.kindOf n==some .cell)=true then(n,NameKind.cell) else(n,k))::_)=_
    cases hx:x==n with
    | true =>
      have e:x=n:=eq_of_beq hx;subst e;simp only[ZF,beq_self_eq_true]
      by_cases hc:(k==NameKind.free&&env.scope.kind==.function&&env.kindOf x==some .cell)=true
      . rw[if_pos hc];simp only[ZF,beq_self_eq_true,YG];rw[if_pos hc]
      . rw[if_neg hc];simp only[ZF,beq_self_eq_true,YG];rw[if_neg hc]
    | false =>
      simp only[ZF,hx]
      by_cases hc:(k==NameKind.free&&env.scope.kind==.function&&env.kindOf n==some .cell)=true
      . rw[if_pos hc];simp only[ZF,hx];exact ih
      . rw[if_neg hc];simp only[ZF,hx];exact ih
theorem am{scope:Scope}{env:Env}(h:∀y∈scope.names,y.2=.free->∃c,env.cells.lookup y.1=some c) :
    ∃cl,closureFor scope env=pure cl/\(∀x c,cl.lookup x=some c->env.cells.lookup x=some c)/\(∀y∈scope.names,y.2=.free->∃c,cl.lookup y.1=some c):=by
  have all:∀(ns:List (Str×NameKind)) (cs:List (Str×Addr)),(∀y∈ns,y.2=.free->∃c,env.cells.lookup y.1=some c)->(∀x c,cs.lookup x=some c->env.cells.lookup x=some c) ->
      ∃cl,(forIn ns cs fun x r=>(if (x.2==NameKind.free)=true then do let a <-cellOf env x.1;pure (ForInStep.yield ((x.1,a)::r)) else pure (ForInStep.yield r):Sem (ForInStep (List (Str×Addr)))))=pure cl /\
        (∀x c,cl.lookup x=some c->env.cells.lookup x=some c)/\(∀x,(cs.lookup x).isSome=true->(cl.lookup x).isSome=true)/\(∀y∈ns,y.2=.free->∃c,cl.lookup y.1=some c):=by
    intro ns
    induction ns with
    | nil=>intro cs _ hc;exact⟨cs,rfl,hc,fun _ z=>z,fun _ z=>nomatch z⟩
    | cons y r ih =>
      intro cs hh hc;have hr:∀z∈r,z.2=.free->∃c,env.cells.lookup z.1=some c:=fun z hz=>hh z (Zv _ hz)
      by_cases hf:y.2=.free
      . obtain⟨c,ec⟩:=hh y ZA hf
        have hc':∀x d,((y.1,c)::cs).lookup x=some d->env.cells.lookup x=some d:=fun x d e=>by
          rw[ZF]at e
          cases hx:x==y.1 with
          | true =>
            rw[hx]at e;have e2:x=y.1:=eq_of_beq hx;cases e;rw[e2];exact ec
          | false =>
            rw[hx]at e;exact hc x d e
        obtain⟨cl,e1,e2,e3,e4⟩:=ih ((y.1,c)::cs) hr hc';refine⟨cl,?_,e2,fun x hx=>e3 x ?_,fun z hz hzf => ?_⟩
        . rw[List.forIn_cons]
          have ek:(y.2==NameKind.free)=true:=by rw[hf];rfl
          simp only[ek,if_true,cellOf,ec,pure_bind];exact e1
        . rw[ZF];split <;> first | rfl | exact hx
        . rcases ZK.mp hz with rfl | hz
          . have:=e3 z.1 (by rw[ZF,beq_self_eq_true];rfl)
            exact Option.isSome_iff_exists.mp this
          . exact e4 z hz hzf
      . obtain⟨cl,e1,e2,e3,e4⟩:=ih cs hr hc
        refine⟨cl,?_,e2,e3,fun z hz hzf => ?_⟩
        . rw[List.forIn_cons]
          have ek:(y.2==NameKind.free)=false:=by simpa using hf
          simp only[ek,Bool.false_eq_true,if_false,pure_bind];exact e1
        . rcases ZK.mp hz with rfl | hz
          . exact absurd hzf hf
          . exact e4 z hz hzf
  obtain⟨cl,e1,e2,_,e4⟩:=all scope.names [] h (fun _ _ z=>by cases z);refine⟨cl,?_,e2,e4⟩;unfold closureFor
  first
    | (rw[show(forIn scope.names ([]:List (Str×Addr)) _:Sem (List (Str×Addr)))=pure cl from e1];rfl)
    | (simp only[bind_pure];exact e1)
    | (show(forIn scope.names [] _ >>= _)=_;exact(congrArg (fun t=>t >>= fun cs=>pure cs) e1))
structure Dyn where
  cl:List (Str×Addr)
  C:Addr
  s₀:Shared
  H₀:Hp
  fp:List Addr
abbrev xm(X:Cx)(scope:Scope)(N':List Str)(d:Dyn):Cx where
  prog:=X.prog
  w:=X.w
  K:=X.K
  mg:=X.mg
  base:=X.base
  A:=X.A
  N:=N'
  s₀:=d.s₀
  H₀:=d.H₀
  env:=compEnvC scope d.cl d.C X.env
  outer:=X.stack
  stack:=X.stack
  ex:=d.fp
  fn:=fun _=>false
  calm:=true
  pn:=[]
  xe:=fun _ _=>False
theorem zed{prog:Program}{w:World}{A:Around}{R:Result->Shared->Prop}{s:Shared}{elt target iter:Expr}{ifs:List Expr}{scope:Scope}{pos:Pos}{it acc:Value}{env:Env}(I:Nat->Shared->Prop)
    (turn:∀n s,I n s->wpAny (model prog w) A (pyNext it) (fun r s₁=>match r with
      | none=>R (.ok .next) s₁
      | some v=>wpAny (model prog w) A (letOwnedTupleGo target it v) (fun _ s₁'=>wpAny (model prog w) A (assign target env v) (fun _ s₂ =>
          wpAny (model prog w) A (forIn ifs true fun c r=>if r=true then do let ok <-isTrue c env (eval c env);pure (ForInStep.yield ok) else pure (ForInStep.yield r)) (fun ok s₃ =>
            if ok=true then wpAny (model prog w) A (eval elt env) (fun x s₄ =>
              wpAny (model prog w) A (call (.builtin "list.append") [acc,x]) (fun _ s₅=>∃m,m<n/\I m s₅) (fun _ _=>False) s₄) (fun _ _=>False) s₃
            else ∃m,m<n/\I m s₃) (fun _ _=>False) s₂) (fun _ _=>False) s₁') (fun _ _=>False) s₁) (fun _ _=>False) s)
    (n:Nat) (h:I n s) :
    codeAny (model prog w) A (.compLoop (.ListComp elt [⟨target,iter,ifs,0⟩] scope pos) 0 it acc env) R s:=by
  refine codeAny_loop rfl I (fun n s hI => ?_) n h
  show wpAny _ A ((compTurn (.ListComp elt [⟨target,iter,ifs,0⟩] scope pos) 0 it acc env).onRaise (fun x=>do noteFrame x env;theTreesLotGoes x)) _ _ s
  refine wpAny_noted ?_;rw[compTurn_list];refine wpAny_bind (wpAny_standAt (wpAny_bind (wpAny_mono (turn n s hI) (fun r s₁ h₁ => ?_) fun _ _ f=>f.elim)))
  cases r with
  | none=>exact wpAny_pure h₁
  | some v =>
    refine wpAny_bind (wpAny_mono h₁ (fun _ s₁' h₁' => ?_) fun _ _ f=>f.elim);refine wpAny_bind (wpAny_mono h₁' (fun _ s₂ h₂=>wpAny_bind (wpAny_mono h₂ (fun ok s₃ h₃ => ?_) fun _ _ f=>f.elim)) fun _ _ f=>f.elim)
    cases ok with
    | false=>exact wpAny_pure ⟨rfl,h₃⟩
    | true =>
      exact wpAny_bind (wpAny_bind (wpAny_mono h₃ (fun x s₄ h₄=>wpAny_bind (wpAny_mono h₄ (fun _ s₅ h₅=>wpAny_pure (wpAny_pure ⟨rfl,h₅⟩)) fun _ _ f=>f.elim)) fun _ _ f=>f.elim))
def PTs(X:Cx)(ifs:List Expr)(t:TT):Prop :=
  ∀(pins:List (Addr×Obj)) (s:Shared) (σ:St) (H:Hp) (Q:Bool->Hp->Prop),Inv X pins σ H s->t σ H Q ->
    wpAny (model X.prog X.w) X.A (forIn ifs true fun c r=>if r=true then do let ok <-isTrue c X.env (eval c X.env);pure (ForInStep.yield ok) else pure (ForInStep.yield r)) (TP X pins σ Q) X.xe s
def tAll:TT:=fun _ H Q=>Q true H
theorem z9{X:Cx}:PTs X [] tAll:=fun _ _ _ H _ I h=>wpAny_tests_nil ⟨H,I,h⟩
theorem zfq{X:Cx}{c:Expr}{t:TT}(h:PT X c t):PTs X [c] t:=fun pins s σ H Q I q=>wpAny_tests_one (h pins s σ H Q I q)
def sk(J:It)(σ:St)(k:Nat)(g:TG)(tt:TT)(te:TE)(H1:Hp)(Fin:List V->Hp->Prop):Prop :=
  ∃W:Nat->Nat->List V->Hp->Prop,(∃m,W 0 m [] H1)/\∀i m ys H,W i m ys H->ys.length<=sizeLine /\
    ((J.stop i H/\Fin ys H)\/(J.go i H/\∃N:List V->Hp->Prop,(∀ys' H',N ys' H'->∃m',m'<m/\W (i+1) m' ys' H')/\∀x H',J.yld i H x H'->g x (List.replicate k none++σ) H' fun σ2 H2=>σ2.drop k=σ /\
      tt σ2 H2 fun b H3=>if b=true then te σ2 H3 fun v H4=>N (ys++[v]) H4 else N ys H3))
abbrev lobj(its:List Value):Obj:={ cls:=.type "list", data:=.seq its.toArray its.length }
section
variable{X:Cx}{pins:List (Addr×Obj)}{σ:St}{H2:Hp}{s₂:Shared}{scope:Scope}{ts N2:List Str}{cl:List (Str×Addr)}{C D:Addr}{fp:List Addr}
theorem zll(I2:Inv X pins σ H2 s₂)(hc:X.calm=true)(f2:∀b∈fp,FpOk X pins H2 b/\b<s₂.heap.objs.size)(hkind:scope.kind=.function)(hown:gg scope.names=true)(hfree:ic scope.names X.env=true)
    (hcl1:∀x c,cl.lookup x=some c->X.env.cells.lookup x=some c) (hcl2:∀y∈scope.names,y.2=.free->∃c,cl.lookup y.1=some c) (hC:s₂.heap.objs.size<=C) :
    (xm X scope (ts++N2) ⟨cl,C,s₂,H2,fp⟩).Ok:=by
  refine⟨I2.ok.mod,hkind,I2.ok.glob,I2.ok.blt,hC,fun x y c e1 e2=>I2.ok.inj x y c (hcl1 _ _ e1) (hcl1 _ _ e2),fun x hx => ?_,fun x c z _=>absurd (show false=true from z) Bool.false_ne_true,fun _=>I2.ok.hd hc,I2.ok.frames,.inl rfl,fun b hb => ?_,I2.bs,Zd I2.ok.bsz I2.sz,fun b o e hb => ?_,fun b hb hfs => ?_,I2.stack,I2.stkFree⟩
  . have hx':(relabel scope X.env).names.lookup x=some .cell\/(relabel scope X.env).names.lookup x=some .free:=hx
    have e0:(relabel scope X.env).names.lookup x=_:=qx (env:=X.env) (x:=x) (ns:=scope.names);rw[e0]at hx'
    cases q:scope.names.lookup x with
    | none=>rw[q]at hx';simp at hx'
    | some k =>
      rw[q]at hx';simp only[YG,Option.some.injEq]at hx';have hm:(x,k)∈scope.names:=PySem.mem_of_lookup q
      have hk:k=.free:=by
        have nc:=aj hown _ hm
        split at hx'
        . rename_i hcond
          simp only[Bool.and_eq_true]at hcond;exact eq_of_beq hcond.1.1
        . rcases hx' with z | z
          . exact absurd z nc
          . exact z
      exact hcl2 _ hm hk
  . obtain⟨⟨f0,f1,f3,f4,f5,f6⟩,hlt⟩:=f2 b hb
    exact⟨Zs (Zh hlt hC),fun x c e=>f5 x c (hcl1 x c e)⟩
  . obtain⟨⟨f0,f1,f3,f4,f5,f6⟩,hlt⟩:=f2 b hb
    rcases f4 with z | z
    . exact I2.ok.noex b o e z
    . exact absurd (Zh (Heap.lt_size e) (Zd I2.ok.bsz z)) (ZJ _)
  . obtain⟨⟨f0,f1,f3,f4,f5,f6⟩,hlt⟩:=f2 b hb
    rcases ZK.mp (I2.stkSub b hfs) with z | z
    . exact f1 z
    . exact f3 z
theorem zg4(I2:Inv X pins σ H2 s₂)(hc:X.calm=true)(f2:∀b∈fp,FpOk X pins H2 b/\b<s₂.heap.objs.size)(hkind:scope.kind=.function)(hown:gg scope.names=true)(hfree:ic scope.names X.env=true)(hout:t8 scope.names N2 X.N=true)
    (hcl1:∀x c,cl.lookup x=some c->X.env.cells.lookup x=some c) (hcl2:∀y∈scope.names,y.2=.free->∃c,cl.lookup y.1=some c) (hC:s₂.heap.objs.size<=C) (hDC:D≠C) (hD:s₂.heap.objs.size<=D)
    {h₁:Heap} {tk:Nat} {m:Str->Option Value} (hn:h₁.Ns C m) (old:∀b o,s₂.heap.get? b=some o->h₁.get? b=some o) (hacc:h₁.get? D=some (lobj [])) :
    Inv (xm X scope (ts++N2) ⟨cl,C,s₂,H2,fp⟩) [(D,lobj [])] (List.replicate ts.length none++σ) H2 { s₂ with heap:=h₁,toks:=tk }:=by
  have ok:=zll (ts:=ts) (N2:=N2) I2 hc f2 hkind hown hfree hcl1 hcl2 hC
  have hlN:∀{a b:List Str},t8 scope.names a b=true->a.length=b.length:=by
    intro a
    induction a with
    | nil=>intro b h;cases b with | nil=>rfl | cons _ _=>cases h
    | cons y ys ih =>
      intro b h
      cases b with
      | nil=>cases h
      | cons n ms =>
        unfold t8 at h;rw[Bool.and_eq_true]at h;rw[ZM,ZM,ih h.2]
  refine⟨ok,rfl,I2.bare,Un.kept old,⟨m,hn,fun i x v e1 e2 e3 => ?_⟩,fun x c e => ?_,?_,fun x c e=>I2.freeC x c (hcl1 x c e),fun p hp => ?_,I2.hok.kept old,?_⟩
  . by_cases hi:i<ts.length
    . rw[Zg (by simpa using hi),YL]at e2
      split at e2 <;> cases e2
    . have hi':ts.length<=i:=ZD.mp hi
      rw[Zf (by simpa using hi')]at e2;rw[ZI]at e2;have e1':(ts++N2)[i]? = some x:=e1;rw[Zf hi']at e1';obtain⟨k1,k2⟩:=az hout e1';have e0:(relabel scope X.env).names.lookup x=_:=qx (env:=X.env) (x:=x) (ns:=scope.names);have e3':(relabel scope X.env).names.lookup x=some .local\/(relabel scope X.env).names.lookup x=some .cell\/(relabel scope X.env).names.lookup x=some .free:=e3;rw[e0]at e3'
      cases q:scope.names.lookup x with
      | none=>rw[q]at e3';simp at e3'
      | some k =>
        have hm:(x,k)∈scope.names:=PySem.mem_of_lookup q
        have hk:k=.free:=by
          unfold bz at k1;rw[q]at k1 e3'
          cases k with
          | free=>rfl
          | «local» => cases k1
          | cell=>cases k1
          | _=>exfalso;revert e3';simp
        subst hk;obtain⟨mo,hmo,hl⟩:=I2.loc;have hkv:=gi hfree hm rfl;have vis:Vis X.env.scope x:=hkv.elim (fun z=>.inr (.inl z)) fun z=>.inr (.inr z)
        obtain⟨u,r,l⟩:=hl _ x v (k2 q) e2 vis;refine⟨u,r,.inr ⟨?_,?_⟩⟩
        . show(relabel scope X.env).names.lookup x=some .cell\/(relabel scope X.env).names.lookup x=some .free
          rw[e0,q];simp only[YG,Option.some.injEq]
          split
          . exact .inl rfl
          . exact .inr rfl
        . rcases l with ⟨kl,_⟩ | ⟨_,c,ec,z⟩
          . exfalso
            rcases hkv with z | z <;> (rw[kl]at z;cases z)
          . obtain⟨c',ec'⟩:=hcl2 _ hm rfl
            have:=hcl1 _ _ ec';rw[ec]at this;cases this;obtain⟨o,ho,hd⟩:=z;exact⟨c,ec',o,old _ _ ho,hd⟩
  . obtain⟨v,o,ho,hd⟩:=I2.cell x c (hcl1 x c e)
    exact⟨v,o,old _ _ ho,hd⟩
  . exact I2.hok.fresh hC
  . have e:p=(D,lobj []):=by simpa using hp
    subst e;refine⟨hacc,I2.hok.fresh hD,hDC,fun z => ?_,fun v z=>by cases z⟩
    rcases ZK.mp (I2.stkSub D z) with z | z
    . exact absurd (Zh I2.lt (by rw[<-z];exact hD)) (ZJ _)
    . exact I2.nofs hD z
  . show(List.replicate ts.length none++σ).length=(ts++N2).length
    rw[Zo,Zo,ZI,I2.len,hlN hout]
theorem zko(I2:Inv X pins σ H2 s₂)(f2:∀b∈fp,FpOk X pins H2 b)(hD:s₂.heap.objs.size<=D){σ':St}{H':Hp}{s':Shared}{its:List Value}{ys:List V}{pl:List (Addr×Obj)}
    (J:Inv (xm X scope (ts++N2) ⟨cl,C,s₂,H2,fp⟩) pl σ' H' s') (hp:s'.heap.get? D=some (lobj its)) (hn:H' D=none) (hv:Vals ys its) (hz:ys.length<=sizeLine):Inv X pins σ (upd H' D (.lst ys)) s':=by
  have neD:∀b o,s₂.heap.get? b=some o->b≠D:=fun b o e=>Zs (Zh (Heap.lt_size e) hD)
  have neH:∀b o,H2 b=some o->b≠D:=fun b o e=>Zs (Zh (I2.hok.lt e) hD)
  have u:=J.base
  have un:Un (frs X.stack) fp H2 (upd H' D (.lst ys)) s₂.heap s'.heap :=
    ⟨u.keep,u.slot,fun b o e n hx=>by rw[zp (neD b o e)];exact u.free b o e n hx,u.there,fun b xs e=>by rw[zp (neH b _ e)];exact u.tups b xs e,fun b o v e=>by rw[zp (neH b _ e)];exact u.frzs b o v e,
      fun b ps e=>by rw[zp (neH b _ e)];exact u.tbls b ps e⟩
  have hok:HOk X.prog X.w (upd H' D (.lst ys)) s'.heap:=fun b o e=>by
    by_cases hb:b=D
    . subst hb
      rw[zd]at e;cases e;exact⟨hz,its,its.length,hv,hp⟩
    . rw[zp hb]at e
      exact(J.hok b o e).stay (fun c v _ q=>q) (fun c q=>by rw[zp (wf q hn)];exact q) fun c xs q=>by rw[zp (wf q hn)];exact q
  exact I2.call' (ch:=fp) J.os un hok J.bare fun b hb=>by
    obtain⟨f0,f1,f3,f4,f5,f6⟩:=f2 b hb;exact⟨f4,f1,f5,f6⟩
theorem zaa{E:Value->Shared->Prop}{tg elt iter:Expr}{ifs:List Expr}{pos:Pos}{it:Addr}{tn:Nat->Heap->Prop}{J:It}{g:Dyn->TG}{tt:Dyn->TT}{te:Dyn->TE}{RR:Value->Addr->Result->Shared->Prop}{Fin:List V->Hp->Prop}
    (I2:Inv X pins σ H2 s₂) (hc:X.calm=true) (T:Turn X.prog X.w X.K tg J fp it tn) (st:tn 0 s₂.heap) (f2:∀b∈fp,FpOk X pins H2 b) (hkind:scope.kind=.function) (hown:gg scope.names=true) (hfree:ic scope.names X.env=true) (hout:t8 scope.names N2 X.N=true)
    (hcl1:∀x c,cl.lookup x=some c->X.env.cells.lookup x=some c) (hcl2:∀y∈scope.names,y.2=.free->∃c,cl.lookup y.1=some c)
    (hg:∀d,PG (xm X scope (ts++N2) d) tg (g d)) (ht:∀d,PTs (xm X scope (ts++N2) d) ifs (tt d)) (he:∀d,PE (xm X scope (ts++N2) d) elt (te d))
    (hW:∀d,sk J σ ts.length (g d) (tt d) (te d) H2 Fin)
    (hRR:∀D C s' H' ys,s₂.heap.objs.size<=C->C≠D->Inv X pins σ (upd H' D (.lst ys)) s'->H' D=none->H' C=none->(∃m,s'.heap.Ns C m)->ys.length<=sizeLine->Fin ys H'->RR (.ref D) C (.ok .next) s') :
    wpAny (model X.prog X.w) X.A (newList []) (fun acc s₃=>wpAny (model X.prog X.w) X.A (newFunctionEnv scope X.env.globals cl [] X.env.qual none .none (some X.env)) (fun cenv s₄ =>
      codeAny (model X.prog X.w) X.A (.compStart (.ListComp elt [⟨tg,iter,ifs,0⟩] scope pos) 0 (.ref it) acc { cenv with scope:=relabel scope X.env }) (RR acc cenv.locals) s₄) E s₃) E s₂:=by
  refine wpAny_newObj_type (wpAny_newFunctionEnv (aj hown) (by intro y hy;simp at hy) (fun h₁ hns₁ hsb₁ => ?_) hkind);dsimp only at hns₁ hsb₁ ⊢;generalize hH2:s₂.heap.push { cls:=.type "list", dict:=none,data:=.seq ([]:List Value).toArray }=HP at hns₁ hsb₁ ⊢;have hC:HP.objs.size=s₂.heap.objs.size+1:=by rw[<-hH2,Heap.size_push]
  have hDC:s₂.heap.objs.size≠HP.objs.size:=by rw[hC];exact Zs (Yz _)
  have hCle:s₂.heap.objs.size<=HP.objs.size:=by rw[hC];exact YC _
  have below:∀b,b<s₂.heap.objs.size->b≠HP.objs.size/\b≠s₂.heap.objs.size:=fun b hb=>⟨by rw[hC];exact Zs (Yv hb),Zs hb⟩
  have old:∀b o,s₂.heap.get? b=some o->h₁.get? b=some o:=fun b o e=>hsb₁.extBut b o (below b (Heap.lt_size e)).1 (Heap.get?_push_of_some _ (hH2▸Heap.get?_push_of_some _ e))
  have hacc:h₁.get? s₂.heap.objs.size=some (lobj []):=hsb₁.extBut _ _ hDC (Heap.get?_push_of_some _ (hH2▸Heap.get?_push_size _ rfl))
  have flt:∀b∈fp,b<s₂.heap.objs.size:=fun b hb=>by
    obtain⟨o,e,_⟩:=T.obj _ _ st b hb;exact Heap.lt_size e
  generalize hDD:s₂.heap.objs.size=D at *;generalize hCC:HP.objs.size=C at *;have hDle:s₂.heap.objs.size<=D:=Nat.le_of_eq hDD;have I4:=fun(tk:Nat)=>zg4 (ts:=ts) (D:=D) (C:=C) (tk:=tk) I2 hc (fun b hb=>⟨f2 b hb,by rw[hDD];exact flt b hb⟩) hkind hown hfree hout hcl1 hcl2 (by rw[hDD];exact hCle) hDC hDle hns₁ old hacc
  generalize hd:(⟨cl,C,s₂,H2,fp⟩:Dyn)=d at *;obtain⟨W,⟨m0,w0⟩,turn⟩:=hW d
  have Xs:∀{pl:List (Addr×Obj)} {H':Hp},(∀b∈fp,H' b=none)->(∀p∈pl,p.1=D)->∀b∈fp,FpOk (xm X scope (ts++N2) d) pl H' b:=fun {pl H'} hn hp b hb=>by
    subst hd;obtain⟨f0,f1,f3,f4,f5,f6⟩:=f2 b hb;refine⟨hn b hb,(below b (flt b hb)).1,fun z => ?_,.inl hb,fun x c e=>f5 x c (hcl1 x c e),fun p hp' => ?_⟩
    . rcases ZK.mp (I2.stkSub b z) with z | z
      . exact f1 z
      . exact f3 z
    . rw[hp p (by simpa using hp')]
      exact Ne.symm (below b (flt b hb)).2
  have loop:∀s₃:Shared,s₃={ s₂ with heap:=h₁,toks:=s₂.toks+([]:List (Str×Value)).length } ->
      codeAny (model X.prog X.w) X.A (.compLoop (.ListComp elt [⟨tg,iter,ifs,0⟩] scope pos) 0 (.ref it) (.ref D) (compEnvC scope cl C X.env)) (RR (.ref D) C) s₃:=by
    rintro s₃ rfl
    refine zed (fun n s'=>∃i ys H' its,Inv (xm X scope (ts++N2) d) [(D,lobj its)] (List.replicate ts.length none++σ) H' s'/\tn i s'.heap/\(∀b∈fp,H' b=none)/\Vals ys its/\W i n ys H') ?_ m0
      ⟨0,[],H2,[],I4 _,T.keep _ _ _ st fun b _ o e=>old b o e,fun b hb=>(f2 b hb).1,.nil,w0⟩
    rintro n s3 ⟨i,ys,H3,its,I3,st3,fr3,hv3,w3⟩
    obtain⟨hlen,tr⟩:=turn i n ys H3 w3
    have one:∀p∈[(D,lobj its)],p.1=D:=fun p hp=>by
      have e:p=(D,lobj its):=by simpa using hp
      rw[e]
    have eenv:(xm X scope (ts++N2) d).env=compEnvC scope cl C X.env:=by subst hd;rfl
    rcases tr with ⟨stop,fin⟩ | ⟨go,N,hN,step⟩
    . refine thn (T.done (xm X scope (ts++N2) d) rfl rfl rfl rfl i _ s3 _ H3 (fun _ _=>False) I3 (Xs fr3 one) st3 stop) fun r s4 ⟨hr,J4⟩ => ?_
      subst hr
      show RR (.ref D) C (.ok .next) s4
      obtain⟨pe,pn,_⟩:=J4.pin (D,lobj its) (by simp);have fC:H3 C=none:=by have:=J4.free;rw[eenv]at this;exact this
      have nC:∃m,s4.heap.Ns C m:=by
        obtain⟨m,z,_⟩:=J4.loc;rw[eenv]at z;exact⟨m,z⟩
      subst hd;exact hRR D C s4 H3 ys hCle (Ne.symm hDC) (zko I2 f2 hDle J4 pe pn hv3 hlen) pn fC nC hlen fin
    . refine thn (T.item (xm X scope (ts++N2) d) rfl rfl rfl rfl i _ s3 _ H3 (fun _ _=>False) I3 (Xs fr3 one) st3 go) fun r s4 ⟨u,hr,h4⟩ => ?_
      subst hr;refine thn h4 fun _ s5 ⟨x,H5,I5,r5,y5,st5,fr5⟩ => ?_
      have I5':=I5.pinned (Xs fr5 one) (T.obj _ _ st5);rw[<-eenv];refine thn (hg d _ s5 _ H5 x u _ I5' r5 (step x H5 y5)) fun _ s6 ⟨σ6,H6,I6,hdrop,q6⟩ => ?_
      have back:∀{ys':List V} {its':List Value} {H':Hp} {s':Shared} {pl:List (Addr×Obj)},Inv (xm X scope (ts++N2) d) ([(D,lobj its')]++pl) σ6 H' s'->Inv (xm X scope (ts++N2) d) [(D,lobj its')] (List.replicate ts.length none++σ) H' s':=fun {ys' its' H' s' pl} I'=>by
        have hl:σ6.length=(ts++N2).length:=I'.len;refine(I'.pins_of (pins':=[(D,lobj its')]) fun p hp=>I'.pin p (Zu _ (ZQ _ hp))).weak ?_ ?_
        . rw[hl];exact I3.len
        . intro j v e
          by_cases hj:j<ts.length
          . rw[Zg (by simpa using hj),YL]at e
            split at e <;> cases e
          . have hj':ts.length<=j:=ZD.mp hj
            rw[Zf (by simpa using hj'),ZI,<-hdrop,Xe]at e;rw[show ts.length+(j-ts.length)=j by omega]at e;exact e
      refine thn (ht d _ s6 σ6 H6 _ I6 q6) fun b s7 ⟨H7,I7,q7⟩ => ?_
      have pinsOf:∀{its':List Value} {H':Hp} {s':Shared},Inv (xm X scope (ts++N2) d) ([(D,lobj its')]++fz fp s5.heap) σ6 H' s'->(∀b∈fp,∀o,s5.heap.get? b=some o->s'.heap.get? b=some o)/\∀b∈fp,H' b=none:=fun {its' H' s'} I'=>by
        refine⟨fun b hb o e=>(I'.pin (b,o) (Zu _ (Zu _ (qq hb e)))).1,fun b hb => ?_⟩;obtain⟨o,e,_⟩:=T.obj _ _ st5 b hb;exact(I'.pin (b,o) (Zu _ (Zu _ (qq hb e)))).2.1
      cases b with
      | false =>
        have q7':N ys H7:=by simpa using q7
        obtain⟨m',hm,w7⟩:=hN _ _ q7';obtain⟨k1,k2⟩:=pinsOf I7
        show ∃m,m<n/\_
        exact⟨m',hm,i+1,ys,H7,its,back (ys':=ys) I7,T.keep _ _ _ st5 k1,k2,hv3,w7⟩
      | true =>
        have q7':te d σ6 H7 fun v H4=>N (ys++[v]) H4:=by simpa using q7
        show wpAny _ _ _ _ _ _
        refine thn (he d _ s7 σ6 H7 _ I7 q7') fun y s8 ⟨v,H8,I8,r8,n8⟩ => ?_
        obtain⟨m',hm,w8⟩:=hN _ _ n8;obtain⟨k1,k2⟩:=pinsOf I8;obtain⟨pe,pn,pC,pf,pd⟩:=I8.pin (D,lobj its) (by simp);have hsz:its.toArray.size<=sizeLine:=by rw[Zr,<-hv3.length];exact hlen
        refine append_at (hsz:=hsz) pe fun h9 sb9 e9 => ?_
        have J8:Inv (xm X scope (ts++N2) d) [] σ6 H8 s8:=I8.pins_of fun p hp=>nomatch hp
        have hDs:(xm X scope (ts++N2) d).s₀.heap.objs.size<=D:=by subst hd;exact hDle
        have J9:Inv (xm X scope (ts++N2) d) [] σ6 H8 { s8 with heap:=h9 }:=J8.turned (t':=s8.toks) (it:=D) (fun b o hb e=>sb9.extBut b o hb e) pn pC (.inr hDs)
          (fun x c e=>by
            obtain⟨v',z⟩:=I3.cell x c e;subst hd;obtain⟨v2,z2⟩:=I2.cell x c (hcl1 x c e)
            exact Zs (Zh z2.lt hDle)) (fun p hp=>nomatch hp)
        have e9':h9.get? D=some (lobj (its++[y])):=by
          rw[e9]
          show some ({ cls:=.type "list", data:=.seq (its.toArray.push y) (its.length+1) }:Obj)=some { cls:=.type "list", data:=.seq (its++[y]).toArray (its++[y]).length }
          rw[Zo,YT,List.push_toArray]
        have J9':Inv (xm X scope (ts++N2) d) ([(D,lobj (its++[y]))]++[]) σ6 H8 { s8 with heap:=h9 }:=J9.pins_of fun p hp=>by
          have e:p=(D,lobj (its++[y])):=by simpa using hp
          subst e;exact⟨e9',pn,pC,pf,fun v z=>by cases z⟩
        refine⟨m',hm,i+1,ys++[v],H8,its++[y],back (ys':=ys) J9',?_,k2,hv3.append (.cons r8 .nil),w8⟩;exact T.keep _ _ _ st5 fun b hb o e=>sb9.extBut b o (below b (flt b hb)).2 (k1 b hb o e)
  exact codeAny_compStart_list (loop _ rfl) (T.self _ 0 _ _ _ (T.keep _ _ _ st fun b _ o e=>old b o e) (loop _ rfl))
end
def zg7(k:Nat)(wi:TI)(g:Dyn->TG)(tt:Dyn->TT)(te:Dyn->TE):TE:=fun σ H Q=>wi σ H fun J H1=>∀d:Dyn,sk J σ k (g d) (tt d) (te d) H1 fun ys H'=>∀l,H' l=none->Q (.ref l) (upd H' l (.lst ys))
theorem yg{X:Cx}{tg elt iter:Expr}{ifs:List Expr}{scope:Scope}{pos:Pos}(ts N2:List Str){wi:TI}{g:Dyn->TG}{tt:Dyn->TT}{te:Dyn->TE}(hc:X.calm=true)(hi:PI X tg iter wi)
    (hg:∀d,PG (xm X scope (ts++N2) d) tg (g d)) (ht:∀d,PTs (xm X scope (ts++N2) d) ifs (tt d)) (he:∀d,PE (xm X scope (ts++N2) d) elt (te d))
    (hkind:scope.kind=.function) (hown:gg scope.names=true) (hfree:ic scope.names X.env=true) (hout:t8 scope.names N2 X.N=true)
    (hs:∀x,foldedSetIterable iter X.env x=pure x:=by intro _;rfl):PE X (.ListComp elt [⟨tg,iter,ifs,0⟩] scope pos) (zg7 ts.length wi g tt te):=by
  intro pins s σ H Q I h;obtain⟨cl,hclos,hcl1,hcl2⟩:=am (scope:=scope) (env:=X.env) fun y hy hf=>I.ok.has y.1 (gi hfree hy hf)
  rw[eval_ListComp];refine wpAny_comprehension_free (use:=none) rfl hs hclos hkind (d6 hown) (thn (hi pins s σ H _ I h) fun v s1 h1=>thn h1 fun itv s2 h2 => ?_);obtain⟨it,fp,tn,J,H2,e,I2,T,st2,f2,hW⟩:=h2;subst e;refine zaa (RR:=fun acc C=>compPost (model X.prog X.w) X.A X.xe none (EP X pins σ Q) acc C) I2 hc T st2 f2 hkind hown hfree hout hcl1 hcl2 hg ht he hW ?_;intro D C s' H' ys hC hCD I' hD hCn hNs hl fin;obtain⟨m,hm⟩:=hNs;refine⟨m,hm,fun h' sb => ?_⟩
  have I'':Inv X pins σ (upd H' D (.lst ys)) { s' with heap:=h' }:=by
    refine I'.turned (t':=s'.toks) (it:=C) (fun b o hb e=>sb.extBut b o hb e) (by rw[zp hCD];exact hCn) (Ym (Zh I2.lt hC)) (.inr (Zd I2.sz hC)) (fun x c e => ?_) fun p hp => ?_
    . obtain⟨v,q⟩:=I2.cell x c e
      exact Zs (Zh q.lt hC)
    . exact Zs (Zh (Heap.lt_size (I2.pin p hp).1) hC)
  exact⟨.ref D,_,I'',rfl,fin D hD⟩
def tSetC(i:Nat)(te:TE):TS:=fun D σ H=>te σ H fun x H1=>D.nx (σ.set i (some x)) H1
theorem ux{X:Cx}{tg elt iter:Expr}{ifs:List Expr}{scope:Scope}{pos spos py:Pos}{i:Nat}{y:Str}(ts N2:List Str){wi:TI}{g:Dyn->TG}{tt:Dyn->TT}{te:Dyn->TE}(hN:X.N.Nodup)(hi':X.N[i]? = some y)(hy:X.env.scope.names.lookup y=some .local)(hc:X.calm=true)(hi:PI X tg iter wi)
    (hg:∀d,PG (xm X scope (ts++N2) d) tg (g d)) (ht:∀d,PTs (xm X scope (ts++N2) d) ifs (tt d)) (he:∀d,PE (xm X scope (ts++N2) d) elt (te d))
    (hkind:scope.kind=.function) (hown:gg scope.names=true) (hfree:ic scope.names X.env=true) (hout:t8 scope.names N2 X.N=true)
    (hsw:swapsWith (.ListComp elt [⟨tg,iter,ifs,0⟩] scope pos) (some (.Name y py)) spos.line X.env=pure true)
    (hs:∀x,foldedSetIterable iter X.env x=pure x:=by intro _;rfl):PS X (.Assign [.Name y py] (.ListComp elt [⟨tg,iter,ifs,0⟩] scope pos) spos) (tSetC i (zg7 ts.length wi g tt te)):=by
  intro pins s σ H D0 I h;obtain⟨cl,hclos,hcl1,hcl2⟩:=am (scope:=scope) (env:=X.env) fun z hz hf=>I.ok.has z.1 (gi hfree hz hf)
  rw[exec_Assign_Name_used _ _ _ _ hsw];refine wpAny_bind (wpAny_standAt (wpAny_bind ?_))
  show wpAny _ X.A (do let _ <-comprehension (.ListComp elt [⟨tg,iter,ifs,0⟩] scope pos) scope X.env _ (newList []) false (eval iter X.env) (some (assign (.Name y py) X.env))) _ _ s
  refine wpAny_bind (wpAny_mono (wpAny_comprehension_free (use:=some (assign (.Name y py) X.env)) (Q:=fun _ s'=>SP X pins D0 .next s') rfl hs hclos hkind (d6 hown)
    (thn (hi pins s σ H _ I h) fun v s1 h1=>thn h1 fun itv s2 h2 => ?_)) (fun _ s' hq=>wpAny_pure (wpAny_pure hq)) fun _ _ e=>e)
  obtain⟨it,fp,tn,J,H2,e,I2,T,st2,f2,hW⟩:=h2;subst e;refine zaa (RR:=fun acc C=>compPost (model X.prog X.w) X.A X.xe (some (assign (.Name y py) X.env)) (fun _ s'=>SP X pins D0 .next s') acc C) I2 hc T st2 f2 hkind hown hfree hout hcl1 hcl2 hg ht he hW ?_;intro D C s' H' ys hC hCD I' hD hCn hNs hl fin;obtain⟨m,hm⟩:=hNs
  show wpAny _ _ _ _ _ _
  have hcl:C≠X.env.locals:=Ym (Zh I2.lt hC)
  have hcc:∀x c,X.env.cells.lookup x=some c->c≠C:=fun x c e=>by
    obtain⟨v,q⟩:=I2.cell x c e;exact Zs (Zh q.lt hC)
  refine wpAny_assign_Name (zba I' hN hi' (.inl hy) (v:=.ref D) (u:=.ref D) rfl (fun s'' I'' ⟨a,sb,ha⟩ => ?_) (.inr hy))
  have haC:C≠a:=by
    rcases ha with z | z
    . rw[z];exact hcl
    . exact Ne.symm (hcc y a z)
  refine⟨m,hm.sameBut sb haC,fun h' sb' => ?_⟩
  have I3:Inv X pins (σ.set i (some (.ref D))) (upd H' D (.lst ys)) { s'' with heap:=h' }:=by
    refine I''.turned (t':=s''.toks) (it:=C) (fun b o hb e=>sb'.extBut b o hb e) (by rw[zp hCD];exact hCn) hcl (.inr (Zd I2.sz hC)) hcc fun p hp => ?_
    exact Zs (Zh (Heap.lt_size (I2.pin p hp).1) hC)
  exact⟨_,_,I3,fin D hD⟩
section
variable{σ:St}{k:Nat}{g:TG}{tt:TT}{te:TE}{H1:Hp}{Fin:List V->Hp->Prop}
theorem wp{lo:Int}{n:Nat}(Pv:Nat->List V->Hp->Prop)(h0:Pv 0 [] H1)(hz:∀i ys H,i<=n->Pv i ys H->ys.length<=sizeLine)
    (hs:∀i ys H,i<n->Pv i ys H->g (.int (lo+i)) (List.replicate k none++σ) H fun σ2 H2=>σ2.drop k=σ/\tt σ2 H2 fun b H3=>if b=true then te σ2 H3 fun v H4=>Pv (i+1) (ys++[v]) H4 else Pv (i+1) ys H3)
    (hd:∀ys H,Pv n ys H->Fin ys H):sk (Itr lo n) σ k g tt te H1 Fin:=by
  refine⟨fun i m ys H=>m=n-i/\i<=n/\Pv i ys H,⟨n,by simp,ZE _,h0⟩,?_⟩
  rintro i m ys H ⟨rfl,hi,p⟩
  refine⟨hz i ys H hi p,?_⟩
  by_cases hlt:i<n
  . refine .inr ⟨hlt,Pv (i+1),fun ys' H' p'=>⟨n-(i+1),by omega,rfl,hlt,p'⟩,fun x H' y => ?_⟩
    obtain⟨e,y⟩:=y;subst e y;exact hs i ys _ hlt p
  . have e:i=n:=by omega
    subst e;exact .inl ⟨Zm _,hd ys H p⟩
theorem yu{K:Fg}{a:Addr}{xs:List V}(Pv:Nat->List V->Hp->Prop)(h0:Pv 0 [] H1)(hz:∀i ys H,i<=xs.length->Pv i ys H->ys.length<=sizeLine/\SqL K H a xs)
    (hs:∀i x ys H,xs[i]? = some x->Pv i ys H->g x (List.replicate k none++σ) H fun σ2 H2=>σ2.drop k=σ/\tt σ2 H2 fun b H3=>if b=true then te σ2 H3 fun v H4=>Pv (i+1) (ys++[v]) H4 else Pv (i+1) ys H3)
    (hd:∀ys H,Pv xs.length ys H->Fin ys H):sk (Itl K a) σ k g tt te H1 Fin:=by
  refine⟨fun i m ys H=>m=xs.length-i/\i<=xs.length/\Pv i ys H,⟨xs.length,by simp,ZE _,h0⟩,?_⟩
  rintro i m ys H ⟨rfl,hi,p⟩
  have q:=(hz i ys H hi p).2;refine⟨(hz i ys H hi p).1,?_⟩
  by_cases hlt:i<xs.length
  . refine .inr ⟨⟨xs,xs[i],q,by simp[hlt]⟩,Pv (i+1),fun ys' H' p'=>⟨xs.length-(i+1),by omega,rfl,hlt,p'⟩,fun x H' y => ?_⟩
    obtain⟨e,y⟩:=y;subst e;exact hs i x ys _ (y xs q) p
  . have e:i=xs.length:=by omega
    subst e;exact .inl ⟨⟨xs,q,Zm _⟩,hd ys H p⟩
end
end L2
namespace L2
open PySem PySem.Spec PyProof.Rows
section
variable{X:Cx}{pins:List (Addr×Obj)}{σ:St}{H:Hp}{s:Shared}{A:Around}{a b:Addr}
end
def GridL(K:Fg)(H:Hp)(a:Addr)(as:List Addr)(rows:List (List Int)):Prop:=SqL K H a (as.map V.ref)/\as.length=rows.length/\∀(i:Nat) (r:Addr) (ns:List Int),as[i]? = some r->rows[i]? = some ns->SqL K H r (ns.map V.int)
section
variable{X:Cx}{pins:List (Addr×Obj)}{σ:St}{H:Hp}{s:Shared}{A:Around}{a b:Addr}
end
def kit0(T1 T2:String):Option Bool:=if (Value.type T1==Value.type T2)=true then some true else if PySem.W.kitMeta T2=true then(fastBuiltinMro T1).map (·.contains (Value.type T2)) else none
theorem zke(K:Fg)(T1 T2:String):PySem.W.kitOne K (.type T1) (.type T2)=kit0 T1 T2:=rfl
section
variable{X:Cx}
theorem wn:ve X (.builtin "isinstance") (fun xs H Q=>∃x T T1 b,xs=[x,.ty T]/\TyOf X.K H x (.type T1)/\kit0 T1 T=some b/\Q (.bl b) H):=by
  intro pins s σ H xs us Q I r h;obtain⟨x,T,T1,b,rfl,ty,e,q⟩:=h;obtain⟨u,v,rfl,rx,ry⟩:=Vals.two r;cases ry;exact zhl I rx ty ((zke X.K T1 T).trans e) fun tk=>⟨.bl b,H,I.tok _,rfl,q⟩
theorem qd {x:Str} {T:String} {pos:Pos} (hg:Gl X x) (hm:X.mg x=none) (hv:bootBuiltins x=some (.type T)) (hn:x ≠ "__name__" := by decide) (hd:(x==("__debug__" : Str))=false:=by decide):PE X (.Name x pos) (tC (.ty T)) :=
  zln hg hm hv rfl hn hd
end
theorem yc:bootBuiltins "len" = some (.builtin "len"):=by decide +kernel
theorem xi:bootBuiltins "isinstance" = some (.builtin "isinstance"):=by decide +kernel
theorem zcg:bootBuiltins "max" = some (.builtin "max"):=by decide +kernel
theorem zdc:bootBuiltins "min" = some (.builtin "min"):=by decide +kernel
theorem kj:bootBuiltins "all" = some (.builtin "all"):=by decide +kernel
theorem bt_abs:bootBuiltins "abs" = some (.builtin "abs"):=by decide +kernel
theorem zjf:bootBuiltins "int" = some (.type "int"):=by decide +kernel
theorem zmj:bootBuiltins "bool" = some (.type "bool"):=by decide +kernel
theorem ll:bootBuiltins "list" = some (.type "list"):=by decide +kernel
theorem q8:bootBuiltins "tuple" = some (.type "tuple"):=by decide +kernel
theorem zhi:bootBuiltins "str" = some (.type "str"):=by decide +kernel
theorem dc:bootBuiltins "dict" = some (.type "dict"):=by decide +kernel
theorem bt_set:bootBuiltins "set" = some (.type "set"):=by decide +kernel
theorem zh1:bootBuiltins "zip" = some (.type "zip"):=by decide +kernel
theorem fr:bootBuiltins "enumerate" = some (.type "enumerate"):=by decide +kernel
structure zc(K:Fg)(mg:Str->Option Value)(name:Str)(st:Stmt)(ps:List Str):Prop where
  ex:∃f fd,mg name=some (.ref f)/\Fun K name name st f fd/\Binds K fd ps []
structure FnAt(P:Program)(w:World)(K:Fg)(mg:Str->Option Value)(base:Heap)(name:Str)(k:Nat)(ps:List Str)(sp:Sp):Prop where
  ex:∃f fd,mg name=some (.ref f)/\PySem.W.keepIn K (.ref f)=true/\Binds K fd ps []/\FnOk P w K mg base CX0 k f fd ps sp
theorem FnAt.of{P:Program}{w:World}{K:Fg}{mg:Str->Option Value}{base:Heap}{name:Str}{st:Stmt}{N ps:List Str}{k:Nat}{sp:Sp}(D:zc K mg name st ps)(S:zr N ps (zk st))(len:∀vs H Q E,sp vs H Q E->vs.length=ps.length)
    (hbody:∀(f:Addr) (cdv:Value) (A:Around) (outer:List Env) (s:Shared) (H:Hp) (vs:List V) (Q:VK) (E:XK),Room k (A.deeper (envOfC name (zk st) s.heap.objs.size f cdv))->sp vs H Q E ->
      ∃t,PSs (cxOf CX0 P w K mg base N name (zk st) f cdv A outer s H E).nox (xf st) t/\t { nx:=fun _ H'=>Q .non H',rt:=Q } (start N vs) H):FnAt P w K mg base name (k+1) ps sp:=by
  obtain⟨f,fd,hm,F,hb⟩:=D.ex;exact⟨f,fd,hm,F.kp,hb,F.ok S len (hbody f)⟩
theorem def_mk{K:Fg}{h:Heap}{mg:Str->Option Value}(X:K.In h)(G:h.Ns mainGlobals mg){name:Str}{st:Stmt}{f:Addr}{oc:Value}{od an:Option Addr}{osl:Array (Option Value)}{kV doc pm cdv ct:Value}{ps:List Str}
    (a:PySem.W.nsIn K mainGlobals name=some (some (.ref f))) (l:K.lookup f=some ⟨oc,od,.func (PySem.W.fnOf name name (rg st) (xf st) (zk st) .none kV doc pm an cdv ct),osl⟩)
    (c:PySem.W.codeIn K cdv name=true) (k:PySem.W.keepIn K (.ref f)=true)
    (hb:∀(kV doc pm:Value) (an:Option Addr) (cdv ct:Value) (us:List Value),us.length=ps.length->bindArgs (PySem.W.fnOf name name (rg st) (xf st) (zk st) .none kV doc pm an cdv ct) ⟨us,[]⟩=pure (ps.zip us)):zc K mg name st ps :=
  ⟨f,_,PySem.W.mg_of X G a,zhj l c k,(zhj (st:=st) l c k).binds hb⟩
section
variable{X:Cx}{x:Str}{k:Nat}{ps:List Str}{sp:Sp}{p pos:Pos}{e:Expr}{es:List Expr}{t:TA}
theorem zi (F:FnAt X.prog X.w X.K X.mg X.base x k ps sp) (hr:Room k X.A) (hg:Gl X x) (ha:PA X (e::es) t) (hdb:(x==("__debug__" : Str))=false:=by decide) (he:starEach (e::es) X.env=(false,eval e X.env)::starEach es X.env:=by rfl)
    (hpl:(backTo pos (starEach es X.env)).any (·.1)=false:=by rfl):PE X (.Call (.Name x p) (e::es) [] pos) (zb3 sp [] E0 t):=by
  obtain⟨f,fd,hm,hk,hb,G⟩:=F.ex;exact ze6 G hr hg hm hk hb .nil pass0 ha hdb he hpl
end
theorem cxK{CX:CXT}{P:Program}{w:World}{K:Fg}{mg:Str->Option Value}{base:Heap}{N:List Str}{qual:Str}{scope:Scope}{f:Addr}{cd:Value}{A:Around}{outer:List Env}{s:Shared}{H:Hp}{E:XK}:(cxOf CX P w K mg base N qual scope f cd A outer s H E).K=K:=rfl
section
variable{D:Ends}{σ:St}{H:Hp}{Q:VK}{QT:Bool->Hp->Prop}{QA:List V->Hp->Prop}{QS:St->Hp->Prop}{R:It->Hp->Prop}{a b c:TE}{s t:TS}{tt uu:TT}{ta tr:TA}{g:TG}{i:Nat}{v x y z:V}{r r':R2}{wi:TI}
theorem xp:tVar i σ H Q=∃v,σ[i]? = some (some v)/\Q v H:=rfl
theorem e_C:tC v σ H Q=Q v H:=rfl
theorem e_op:tOp r a b σ H Q=a σ H fun x H1=>b σ H1 fun y H2=>r x y H2 Q:=rfl
theorem e_un{u:V->Hp->VK->Prop}:tUn u a σ H Q=a σ H fun x H1=>u x H1 Q:=rfl
theorem e_rI{C:Int->Int->Prop}{f:Int->Int->V}:rI C f x y H Q=∃i j,x=.int i/\y=.int j/\C i j/\Q (f i j) H:=rfl
theorem xq{f:Int->Int->V}:rI0 f x y H Q=∃i j,x=.int i/\y=.int j/\Q (f i j) H:=rfl
theorem e_rU{f:Int->V}:rU f x H Q=∃i,x=.int i/\Q (f i) H:=rfl
theorem xt:rEq x y H Q=(scal x y=true/\Q (.bl (decide (x=y))) H):=rfl
theorem x6:rNe x y H Q=(scal x y=true/\Q (.bl (!decide (x=y))) H):=rfl
theorem xx{K:Fg}:rIxL K x y H Q=∃p xs i v,x=.ref p/\y=.int i/\SqL K H p xs/\atI xs i=some v/\Q v H:=rfl
theorem x9{K:Fg}:rIxT K x y H Q=∃p xs i v,x=.ref p/\y=.int i/\SqT K H p xs/\atI xs i=some v/\Q v H:=rfl
theorem e_set{o i v:V}{Q:Hp->Prop}:rSetL o i v H Q=∃p xs k j,o=.ref p/\i=.int k/\H p=some (.lst xs)/\ixN xs.length k=some j/\Q (upd H p (.lst (xs.set j v))):=rfl
theorem e_cat:rCat x y H Q=∃l b xs zs,x=.ref l/\y=.ref b/\H l=some (.lst xs)/\H b=some (.lst zs)/\xs.length+zs.length<=sizeLine/\∀p,H p=none->Q (.ref p) (upd H p (.lst (xs++zs))):=rfl
theorem y4:zgn a σ H QT=a σ H fun x H'=>∃k,x=.bl k/\QT k H':=rfl
theorem e_B:tB a σ H QT=a σ H fun x H1=>∃c,x=.bl c/\QT c H1:=rfl
theorem x0:tAnd tt uu σ H QT=tt σ H fun c H1=>if c=true then uu σ H1 QT else QT false H1:=rfl
theorem e_or:tOr tt uu σ H QT=tt σ H fun c H1=>if c=true then QT true H1 else uu σ H1 QT:=rfl
theorem wb:tNot tt σ H QT=tt σ H fun c H1=>QT (!c) H1:=rfl
theorem e_andV:tAndV a b σ H Q=a σ H fun x H1=>∃c,x=.bl c/\if c=true then b σ H1 Q else Q (.bl false) H1:=rfl
theorem e_orV:tOrV a b σ H Q=a σ H fun x H1=>∃c,x=.bl c/\if c=true then Q (.bl true) H1 else b σ H1 Q:=rfl
theorem e_notV:tNotV a σ H Q=a σ H fun x H1=>∃c,x=.bl c/\Q (.bl (!c)) H1:=rfl
theorem x5:tIf tt a b σ H Q=tt σ H fun c H1=>if c=true then a σ H1 Q else b σ H1 Q:=rfl
theorem x8:tAll σ H QT=QT true H:=rfl
theorem y9:tNext D σ H=D.nx σ H:=rfl
theorem xw:tSeq s t D σ H=s { D with nx:=t D } σ H:=rfl
theorem e_brk:tBreak D σ H=D.bk σ H:=rfl
theorem e_cnt:tCont D σ H=D.ct σ H:=rfl
theorem y3:tDrop a D σ H=a σ H fun _ H1=>D.nx σ H1:=rfl
theorem xz:tRet a D σ H=a σ H D.rt:=rfl
theorem e_retN:tRetN D σ H=D.rt .non H:=rfl
theorem xu:tIfS tt s t D σ H=tt σ H fun b H1=>if b=true then s D σ H1 else t D σ H1:=rfl
theorem xy:tAsg a g D σ H=a σ H fun x H1=>g x σ H1 D.nx:=rfl
theorem yi:zf0 i v σ H QS=QS (σ.set i (some v)) H:=rfl
theorem e_setC:tSetC i a D σ H=a σ H fun x H1=>D.nx (σ.set i (some x)) H1:=rfl
theorem e_augS{tget:V->V->Hp->VK->Prop}{tip:TIp}{tset:TSet}:tAugS a b c tget tip tset D σ H=a σ H fun o H1=>b σ H1 fun i H2=>tget o i H2 fun x H3=>c σ H3 fun y H4=>tip x y H4 fun z H5=>tset o i z H5 fun H6=>D.nx σ H6:=rfl
theorem e_ipI{f:Int->Int->Int}:ipI f x y H Q=∃i j,x=.int i/\y=.int j/\Q (.int (f i j)) H:=rfl
theorem xr:tNil σ H QA=QA [] H:=rfl
theorem y0:zfz a ta σ H QA=a σ H fun x H1=>ta σ H1 fun xs H2=>QA (x::xs) H2:=rfl
theorem wc:tTup ta σ H Q=ta σ H fun xs H1=>xs.length<=sizeLine/\∀p,H1 p=none->Q (.ref p) (upd H1 p (.tup xs)):=rfl
theorem xv:tLst ta σ H Q=ta σ H fun xs H1=>xs.length<=sizeLine/\∀p,H1 p=none->Q (.ref p) (upd H1 p (.lst xs)):=rfl
theorem y7{sp:Sp}{E:XK}:zb3 sp [] E ta σ H Q=ta σ H fun vs H1=>sp (vs++[]) H1 Q E:=rfl
theorem e_CB{u:List V->Hp->VK->Prop}:tCB u ta σ H Q=ta σ H fun vs H1=>u vs H1 Q:=rfl
theorem e_BM{K:Fg}{T:String}{u:V->List V->Hp->VK->Prop}:tBM K T u a ta σ H Q=a σ H fun x H1=>tyV K T x H1/\ta σ H1 fun xs H2=>u x xs H2 Q:=rfl
theorem e_app{vs:List V}:zew x vs H Q=∃l xs y,x=.ref l/\vs=[y]/\H l=some (.lst xs)/\xs.length<sizeLine/\Q .non (upd H l (.lst (xs++[y]))):=rfl
theorem y8:iRng1 ta σ H R=ta σ H fun vs H1=>∃j:Int,vs=[.int j] /\ -(2^62)<=j/\j<2^62/\R (Itr 0 j.toNat) H1:=rfl
theorem e_rng2:iRng2 ta σ H R=ta σ H fun vs H1=>∃i j:Int,vs=[.int i,.int j]/\(-(2^62)<=i/\i<2^62 /\ -(2^62)<=j/\j<2^62)/\R (Itr i (j-i).toNat) H1:=rfl
theorem e_iL{K:Fg}:iList K a σ H R=a σ H fun x H1=>∃p,x=.ref p/\(∃xs,SqL K H1 p xs)/\R (Itl K p) H1:=rfl
def ForW(J:It)(g:TG)(tb:TS)(D:Ends)(σ:St)(H1:Hp):Prop:=∃W:Nat->Nat->St->Hp->Prop,(∃m,W 0 m σ H1)/\∀i m σ H,W i m σ H ->
  (J.stop i H/\D.nx σ H)\/(J.go i H/\∃N:St->Hp->Prop,(∀σ' H',N σ' H'->∃m',m'<m/\W (i+1) m' σ' H')/\∀x H',J.yld i H x H'->g x σ H' fun σ2 H2=>tb { D with nx:=N,ct:=N,bk:=D.nx } σ2 H2)
theorem wa:tFor wi g t D σ H=wi σ H fun J H1=>ForW J g t D σ H1:=rfl
theorem y6{k:Nat}{g:Dyn->TG}{tt:Dyn->TT}{te:Dyn->TE}:zg7 k wi g tt te σ H Q=wi σ H fun J H1=>∀d:Dyn,sk J σ k (g d) (tt d) (te d) H1 fun ys H'=>∀l,H' l=none->Q (.ref l) (upd H' l (.lst ys)):=rfl
end
end L2
namespace L2
open PySem PySem.Spec PyProof.Rows
section
variable{X:Cx}
theorem tj(hc:X.calm=true):ve X (.builtin "all") (fun xs H Q=>∃(p:Addr) (bs:List Bool),xs=[.ref p]/\SqL X.K H p (bs.map V.bl)/\Q (.bl (bs.all id)) H):=by
  intro pins s σ H xs us Q I r h;obtain⟨p,bs,rfl,hq,q⟩:=h;obtain⟨u,rfl,rx⟩:=Vals.one r;cases rx;obtain⟨its,rv,pl,hz⟩:=I.list hq;have hlt:p<s.heap.objs.size:=by obtain⟨_,e,_⟩:=pl.isList;exact Heap.lt_size e
  have hlen:its.length=bs.length:=by have:=rv.length;rw[Za]at this;exact this.symm
  refine call_all_walk (wpAny_pyIter_list pl.isList ?_)
  refine⟨s.heap.objs.size,[s.heap.objs.size,p],[s.heap.objs.size],its.toArray.size,_,_,fun i=>(bs[i]?).getD true,rfl,Walks.list (A:=X.A.in1) (I.ok.hd hc) _ p (Zs hlt) its.toArray,
    ⟨⟨_,Heap.get?_push_size _ rfl,rfl,rfl⟩,pl.isList.push _⟩,fun i v s' Q' E' hP hQ => ?_,fun h' tk hk => ?_⟩
  . have hi:its[i]? = some v:=by simpa using hP
    have hil:i<bs.length:=by rw[<-hlen];exact(Zc.mp hi).1
    have e:bs[i]? = some bs[i]:=by simp[hil]
    obtain⟨u,hu,ru⟩:=rv.get (i:=i) (x:=V.bl bs[i]) (by rw[Ze,e];rfl);rw[hi]at hu;cases hu;cases ru;simp only[e,Xg]at hQ;exact wpAny_truthy_bool hQ
  . have e:((List.range its.toArray.size).all fun i=>(bs[i]?).getD true)=bs.all id:=by
      rw[Zr,hlen];rw[Bool.eq_iff_iff,ZR,ZR]
      constructor
      . intro z b hb
        obtain⟨i,hi,rfl⟩:=Zy hb;have:=z i (ZP.mpr hi)
        simpa[Zb hi] using this
      . intro z i hi
        have hi':=ZP.mp hi;simp only[Zb hi',Xg];exact z _ (Zl hi')
    rw[e];exact⟨.bl (bs.all id),H,I.kept fun b x e=>hk b x (fun hm=>by rw[ZC.mp hm]at e;exact ZJ _ (Heap.lt_size e)) (Heap.get?_push_of_some _ e),rfl,q⟩
end
def Itz(K:Fg)(a b:Addr):It :=
  ⟨fun i H=>∃xs ys x y,SqL K H a xs/\SqL K H b ys/\xs[i]? = some x/\ys[i]? = some y,
   fun i H v H'=>∃T x y,v=.ref T/\H T=none/\H'=upd H T (.tup [x,y])/\∀xs ys,SqL K H a xs->SqL K H b ys->xs[i]? = some x/\ys[i]? = some y,
   fun i H=>∃xs ys,SqL K H a xs/\SqL K H b ys/\(xs.length<=i\/ys.length<=i)⟩
structure zcl(z TI TO i1 i2:Addr):Prop where
  TIz:TI≠z
  TOz:TO≠z
  i1z:i1≠z
  i2z:i2≠z
  TITO:TI≠TO
  TIi1:TI≠i1
  TIi2:TI≠i2
  TOi1:TO≠i1
  TOi2:TO≠i2
  i12:i1≠i2
def tnZip(z TI TO i1 i2 l1 l2:Addr)(i:Nat)(h:Heap):Prop:=IsZip h z TI TO .none/\IsPair h TI (.ref i1) (.ref i2)/\(∃a b,IsPair h TO a b)/\h.IsListIter i1 l1 i/\h.IsListIter i2 l2 i
theorem zbp{z TI TO i1 i2 l1 l2:Addr}{i:Nat}{h:Heap}{xs ys:Array Value}(D:zcl z TI TO i1 i2)(t:tnZip z TI TO i1 i2 l1 l2 i h)(h1:h.IsList l1 xs)(h2:h.IsList l2 ys):ZipApart z TI TO i1 i2 l1 l2:=by
  obtain⟨hz,hTI,⟨a,b,hTO⟩,k1,k2⟩:=t
  have n1:∀{l:Addr} {ws:Array Value},h.IsList l ws->l≠z:=fun {l ws} q e=>by
    obtain⟨o,e1,c,_⟩:=q;subst e;rw[hz]at e1;cases e1;simp at c
  have n2:∀{l:Addr} {ws:Array Value},h.IsList l ws->l≠TO:=fun {l ws} q e=>by
    obtain⟨o,e1,c,_⟩:=q;subst e;rw[hTO]at e1;cases e1;simp at c
  have n3:∀{l j l':Addr} {k:Nat} {ws:Array Value},h.IsListIter j l' k->h.IsList l ws->l≠j:=fun {l j l' k ws} k1 q e=>by
    obtain⟨o,e1,c,_⟩:=q;obtain⟨o',e1',c',_⟩:=k1;subst e;rw[e1']at e1;cases e1;rw[c']at c;simp at c
  exact⟨D.TIz,D.TOz,D.i1z,D.i2z,D.TITO,D.TIi1,D.TIi2,D.TOi1,D.TOi2,D.i12,n1 h1,n2 h1,n3 k1 h1,n3 k2 h1,n1 h2,n2 h2,n3 k1 h2,n3 k2 h2⟩
theorem Inv.turnedLaid{X:Cx}{pins:List (Addr×Obj)}{σ:St}{H:Hp}{s:Shared}{h':Heap}{t':Nat}{ch:List Addr}{T:Addr}{o:HO}(I:Inv X pins σ H s)(hf:∀b∈ch,FpOk X pins H b)
    (k:∀b o,b∉ch->s.heap.get? b=some o->h'.get? b=some o) (hT:s.heap.objs.size<=T) (new:ObjOk X.prog X.w (upd H T o) h' T o):Inv X pins σ (upd H T o) { s with heap:=h',toks:=t' }:=by
  have nch:∀b u,H b=some u->b∉ch:=fun b u e z=>by rw[(hf b z).1]at e;cases e
  have nT:∀b u,H b=some u->b≠T:=fun b u e=>Zs (Zh (I.hok.lt e) hT)
  have nT':∀b u,s.heap.get? b=some u->b≠T:=fun b u e=>Zs (Zh (Heap.lt_size e) hT)
  refine I.step (g':=s.gens) (d':=s.drawn) (ch:=ch) (fun b hb => ?_) (fun b o _ _ hc e _=>k b o hc e) (fun b o _ _ hc e _=>⟨o.slots,k b o hc e⟩) (fun b o _ e n=>by rw[zp (nT' b o e)];exact n)
    (fun b o hc e=>⟨o,k b o hc e⟩) (fun b xs e=>by rw[zp (nT b _ e)];exact e) (fun b ob u e=>by rw[zp (nT b _ e)];exact e) (fun b ps e=>⟨#[],by rw[zp (nT b _ e),e];simp⟩) (fun m hm => ?_) (fun b u e => ?_) I.bare
  . obtain⟨f0,f1,f2,f3,f4,f5⟩:=hf b hb
    exact⟨f3,f1,f4,f5⟩
  . obtain⟨ob,es,ep,ho,r⟩:=hm
    exact⟨ob,es,ep,k _ ob (fun z=>(hf _ z).2.1 rfl) ho,r⟩
  . by_cases hb:b=T
    . subst hb
      rw[zd]at e;cases e;exact new
    . rw[zp hb]at e
      refine(I.hok b u e).stay (fun c v hc q=>k c v ?_ q) (fun c q=>by rw[zp (nT c _ q)];exact q) fun c xs q=>by rw[zp (nT c _ q)];exact q
      rcases hc with z | z
      . rw[z];exact nch b u e
      . exact nch c _ z
theorem zj7{P:Program}{w:World}{K:Fg}{elts:List Expr}{x1:Nat}{pos:Pos}(z TI TO i1 i2 l1 l2:Addr)(D:zcl z TI TO i1 i2) :
    Turn P w K (.Tuple elts x1 pos) (Itz K l1 l2) [z,TI,TO,i1,i2] z (tnZip z TI TO i1 i2 l1 l2) where
  mem:=by simp
  obj:=fun i h st b hb=>by
    obtain⟨hz,hTI,⟨a,b',hTO⟩,⟨o1,e1,c1,d1⟩,⟨o2,e2,c2,d2⟩⟩:=st;simp only[ZK,Zx,or_false]at hb
    rcases hb with rfl | rfl | rfl | rfl | rfl
    . exact⟨_,hz,fun v q=>by cases q⟩
    . exact⟨_,hTI,fun v q=>by cases q⟩
    . exact⟨_,hTO,fun v q=>by cases q⟩
    . exact⟨o1,e1,fun v q=>by rw[d1]at q;cases q⟩
    . exact⟨o2,e2,fun v q=>by rw[d2]at q;cases q⟩
  keep:=fun i h h' st k=>by
    obtain⟨hz,hTI,⟨a,b,hTO⟩,h1,h2⟩:=st;exact⟨k z (by simp) _ hz,k TI (by simp) _ hTI,⟨a,b,k TO (by simp) _ hTO⟩,h1.at fun o e=>k i1 (by simp) o e,h2.at fun o e=>k i2 (by simp) o e⟩
  item:=by
    intro X hP hw hK hc i pins s σ H E I hf st hg;subst hP hw hK;obtain⟨xs,ys,x,y,qa,qb,hx,hy⟩:=hg;obtain⟨us,ru,pu,zu⟩:=I.list qa;obtain⟨vs,rv,pv',zv⟩:=I.list qb;obtain⟨u,hu,rxu⟩:=ru.get hx;obtain⟨v,hv,ryv⟩:=rv.get hy;have A:=zbp D st pu.isList pv'.isList;obtain⟨hz,hTI,⟨a,b,hTO⟩,h1,h2⟩:=id st;refine wpAny_pyNext_zip_item A hz hTI hTO h1 h2 pu.isList pv'.isList (x:=u) (y:=v) (by simpa using hu) (by simpa using hv) fun h' a1 a2 a3 a4 a5 a6 hk => ?_
    have ltT:∀{c o},s.heap.get? c=some o->c≠s.heap.objs.size:=fun e=>Zs (Heap.lt_size e)
    refine⟨_,rfl,wpAny_letOwnedTupleGo_zip (s:={ s with heap:=h' }) a1 fun h'' b1 sb => ?_⟩;have hTz:s.heap.objs.size≠z:=Ne.symm (ltT hz)
    have hf4:∀b∈[z,TO,i1,i2],FpOk X pins H b:=fun b hb=>hf b (by
      simp only[ZK,Zx,or_false]at hb ⊢
      rcases hb with h | h | h | h <;> simp[h])
    have I1:Inv X pins σ (upd H s.heap.objs.size (.tup [x,y])) { s with heap:=h'',toks:=s.toks }:=I.turnedLaid (ch:=[z,TO,i1,i2]) hf4 (fun b o hb e=>by
      simp only[ZK,Zx,or_false,not_or]at hb
      exact sb.extBut b o hb.1 (hk b o hb.1 hb.2.1 hb.2.2.1 hb.2.2.2 e)) (Zm _) ⟨by show 2<=sizeLine;decide,[u,v],.cons rxu (.cons ryv .nil),by
        have e:=sb.extBut _ _ hTz a5
        exact⟨_,e,rfl,_,rfl,rfl⟩⟩
    refine⟨.ref s.heap.objs.size,_,I1,rfl,⟨s.heap.objs.size,x,y,rfl,I.hok.fresh (Zm _),rfl,fun xs' ys' q1 q2 => ?_⟩,?_,fun b hb => ?_⟩
    . rw[I.list_inj q1 qa,I.list_inj q2 qb]
      exact⟨hx,hy⟩
    . exact⟨b1,sb.extBut _ _ A.TIz (hk _ _ A.TIz A.TITO A.TIi1 A.TIi2 hTI),⟨_,_,sb.extBut _ _ A.TOz a2⟩,a3.extBut sb.extBut A.i1z,a4.extBut sb.extBut A.i2z⟩
    . have hb':=(hf b hb).1
      rw[zp ?_]
      . exact hb'
      . simp only[ZK,Zx,or_false]at hb
        rcases hb with rfl | rfl | rfl | rfl | rfl
        . exact ltT hz
        . exact ltT hTI
        . exact ltT hTO
        . obtain⟨_,e,_⟩:=h1;exact ltT e
        . obtain⟨_,e,_⟩:=h2;exact ltT e
  done:=by
    intro X hP hw hK hc i pins s σ H E I hf st hg;subst hP hw hK;obtain⟨xs,ys,qa,qb,hend⟩:=hg;obtain⟨us,ru,pu,zu⟩:=I.list qa;obtain⟨vs,rv,pv',zv⟩:=I.list qb;have A:=zbp D st pu.isList pv'.isList;obtain⟨hz,hTI,⟨a,b,hTO⟩,h1,h2⟩:=id st;have l1':=ru.length;have l2':=rv.length
    refine wpAny_pyNext_zip_end (I.ok.hd hc) A hz hTI hTO h1 h2 pu.isList pv'.isList (by
      rcases hend with h | h
      . left;simp;omega
      . right;simp;omega) fun h' hk=>⟨rfl,?_⟩
    have nch:∀b u,H b=some u->b∉[z,TO,i1,i2]:=fun b u e q=>by
      have:=(hf b (by simp only[ZK,Zx,or_false]at q ⊢;rcases q with h | h | h | h <;> simp[h])).1;rw[this]at e;cases e
    have k:∀b o,b∉[z,TO,i1,i2]->s.heap.get? b=some o->h'.get? b=some o:=fun b o hb e=>by
      simp only[ZK,Zx,or_false,not_or]at hb;exact hk b o hb.1 hb.2.1 hb.2.2.1 hb.2.2.2 e
    have hf4:∀b∈[z,TO,i1,i2],FpOk X pins H b:=fun b hb=>hf b (by
      simp only[ZK,Zx,or_false]at hb ⊢
      rcases hb with h | h | h | h <;> simp[h])
    exact I.step (g':=s.gens) (d':=s.drawn) (t':=s.toks) (ch:=[z,TO,i1,i2]) (fun b hb=>by
        obtain⟨f0,f1,f2,f3,f4,f5⟩:=hf4 b hb
        exact⟨f3,f1,f4,f5⟩) (fun b o _ _ hc e _=>k b o hc e) (fun b o _ _ hc e _=>⟨o.slots,k b o hc e⟩) (fun b o _ e n=>n)
      (fun b o hc e=>⟨o,k b o hc e⟩) (fun b xs e=>e) (fun b ob u e=>e) (fun b ps e=>⟨#[],by rw[e];simp⟩) (fun m hm=>by
        obtain⟨ob,es,ep,ho,r⟩:=hm
        exact⟨ob,es,ep,k _ ob (fun q=>(hf4 _ q).2.1 rfl) ho,r⟩) (fun b u e=>(I.hok b u e).stay (fun c v hc q=>k c v (by
          rcases hc with r | r
          . rw[r];exact nch b u e
          . exact nch c _ r) q) (fun _ q=>q) fun _ _ q=>q) I.bare
  self:=fun _ _ _ _ _ st h=>wpAny_pyIter_zip st.1 h
def iZip(K:Fg)(ta:TA):TI:=fun σ H R=>ta σ H fun vs H1=>∃a b,vs=[.ref a,.ref b]/\(∃xs,SqL K H1 a xs)/\(∃ys,SqL K H1 b ys)/\R (Itz K a b) H1
theorem pi_zip {X:Cx} {a b:Expr} {ta:TA} {p pos tpos:Pos} {elts:List Expr} {x1:Nat} (hg:Gl X "zip") (hm:X.mg "zip" = none) (ha:PA X [a,b] ta) (hs:starEach [a,b] X.env=[(false,eval a X.env),(false,eval b X.env)]:=by rfl) (hs2:starEach [b] X.env=[(false,eval b X.env)]:=by rfl) :
    PI X (.Tuple elts x1 tpos) (.Call (.Name "zip" p) [a,b] [] pos) (iZip X.K ta):=by
  intro pins s σ H R I h;refine Call_ (ud I hg hm zh1 (PyProof.Rows.callWith_type1 (thn (ha pos pins s σ H _ I h) fun us s1 ⟨vs,H1,I1,r1,q1⟩ => ?_) (by rw[hs,hs2]) (by rw[hs2];rfl)));obtain⟨a,b,e,⟨xs,qa⟩,⟨ys,qb⟩,q⟩:=q1;subst e;obtain⟨u,v,rfl,ru,rv⟩:=Vals.two r1;cases ru;cases rv;obtain⟨its,_,pa,_⟩:=I1.list qa;obtain⟨jts,_,pb,_⟩:=I1.list qb;refine call_zip_2 pa.isList pb.isList fun h' z1 z2 z3 z4 z5 z6 kp => ?_
  refine wpAny_pyIter_zip (s:={ s1 with heap:=h' }) z1 ?_;have I2:Inv X pins σ H1 { s1 with heap:=h' }:=I1.kept (t':=s1.toks) kp;have D:zcl (s1.heap.objs.size+4) (s1.heap.objs.size+2) (s1.heap.objs.size+3) s1.heap.objs.size (s1.heap.objs.size+1):=by constructor <;> (show(_:Nat)≠_;omega)
  refine⟨s1.heap.objs.size+4,[s1.heap.objs.size+4,s1.heap.objs.size+2,s1.heap.objs.size+3,s1.heap.objs.size,s1.heap.objs.size+1],_,_,H1,rfl,I2,zj7 _ _ _ _ _ a b D,⟨z1,z2,⟨_,_,z3⟩,z4,z5⟩,fun c hc => ?_,q⟩
  have hle:s1.heap.objs.size<=c:=by
    simp only[ZK,Zx,or_false]at hc
    rcases hc with h | h | h | h | h <;> (rw[h];omega)
  exact I1.fpOk hle (I1.hok.fresh hle)
theorem e_zip{K:Fg}{ta:TA}{σ:St}{H:Hp}{R:It->Hp->Prop}:iZip K ta σ H R=ta σ H fun vs H1=>∃a b,vs=[.ref a,.ref b]/\(∃xs,SqL K H1 a xs)/\(∃ys,SqL K H1 b ys)/\R (Itz K a b) H1:=rfl
theorem xc{K:Fg}{n:Nat}{t:TGs}{v:V}{σ:St}{H:Hp}{Q:St->Hp->Prop}:gTup K n t v σ H Q=∃a xs,v=.ref a/\SqT K H a xs/\xs.length=n/\t xs σ H Q:=rfl
theorem yz{vs:List V}{σ:St}{H:Hp}{Q:St->Hp->Prop}:gNil vs σ H Q=(vs=[]/\Q σ H):=rfl
theorem yl{t:TG}{u:TGs}{vs:List V}{σ:St}{H:Hp}{Q:St->Hp->Prop}:gCons t u vs σ H Q=∃v r,vs=v::r/\t v σ H fun σ' H'=>u r σ' H' Q:=rfl
end L2
namespace L2
open PySem PySem.Spec PyProof.Rows
section
variable{X:Cx}
end
section
variable{X:Cx}
end
theorem e_gSub{to ti:TE}{t:TSet}{v:V}{σ:St}{H:Hp}{Q:St->Hp->Prop}:gSub to ti t v σ H Q=to σ H fun o H1=>ti σ H1 fun i H2=>t o i v H2 fun H3=>Q σ H3:=rfl
theorem e_rep{x y:V}{H:Hp}{Q:VK}:rRep x y H Q=∃l k xs,x=.ref l/\y=.int k/\H l=some (.lst xs) /\ -(2^63)<=k/\k<2^63/\xs.length*k.toNat<=sizeLine/\∀p,H p=none->Q (.ref p) (upd H p (.lst (List.replicate k.toNat xs).flatten)):=rfl
end L2
namespace L2
open PySem PySem.Spec PyProof.Rows
section
variable{σ:St}{k:Nat}{g:TG}{tt:TT}{te:TE}{H1:Hp}{Fin:List V->Hp->Prop}
theorem zkf{K:Fg}{a b:Addr}{xs zs:List V}(Pv:Nat->List V->Hp->Prop)(h0:Pv 0 [] H1)(hz:∀i ys H,i<=min xs.length zs.length->Pv i ys H->ys.length<=sizeLine/\SqL K H a xs/\SqL K H b zs)
    (hs:∀i x z ys H T,xs[i]? = some x->zs[i]? = some z->H T=none->Pv i ys H->g (.ref T) (List.replicate k none++σ) (upd H T (.tup [x,z])) fun σ2 H2=>σ2.drop k=σ/\tt σ2 H2 fun b H3=>if b=true then te σ2 H3 fun v H4=>Pv (i+1) (ys++[v]) H4 else Pv (i+1) ys H3)
    (hd:∀ys H,Pv (min xs.length zs.length) ys H->Fin ys H):sk (Itz K a b) σ k g tt te H1 Fin:=by
  refine⟨fun i m ys H=>m=min xs.length zs.length-i/\i<=min xs.length zs.length/\Pv i ys H,⟨min xs.length zs.length,by simp,ZE _,h0⟩,?_⟩
  rintro i m ys H ⟨rfl,hi,p⟩
  obtain⟨q0,qa,qb⟩:=hz i ys H hi p;refine⟨q0,?_⟩
  by_cases hlt:i<min xs.length zs.length
  . have h1:i<xs.length:=by omega
    have h2:i<zs.length:=by omega
    refine .inr ⟨⟨xs,zs,xs[i],zs[i],qa,qb,by simp[h1],by simp[h2]⟩,Pv (i+1),fun ys' H' p'=>⟨min xs.length zs.length-(i+1),by omega,rfl,hlt,p'⟩,fun x H' y => ?_⟩;obtain⟨T,x',z',rfl,hT,rfl,hy⟩:=y;obtain⟨e1,e2⟩:=hy xs zs qa qb;exact hs i x' z' ys _ T e1 e2 hT p
  . have e:i=min xs.length zs.length:=by omega
    subst e;exact .inl ⟨⟨xs,zs,qa,qb,by omega⟩,hd ys H p⟩
end
theorem e_slL{K:Fg}{x:V}{lo hi:Option Int}{H:Hp}{Q:VK}:rSlL K x lo hi H Q=∃a xs,x=.ref a/\SqL K H a xs/\∀p,H p=none->Q (.ref p) (upd H p (.lst (cutV xs lo hi))):=rfl
theorem e_tSl{r:V->Option Int->Option Int->Hp->VK->Prop}{te:TE}{tl th:TO}{σ:St}{H:Hp}{Q:VK}:tSl r te tl th σ H Q=te σ H fun x H1=>tl σ H1 fun l H2=>th σ H2 fun u H3=>r x l u H3 Q:=rfl
theorem zkk{σ:St}{H:Hp}{Q:Option Int->Hp->Prop}:ze9 σ H Q=Q none H:=rfl
theorem e_part{t:TE}{σ:St}{H:Hp}{Q:Option Int->Hp->Prop}:tPart t σ H Q=t σ H fun x H1=>∃i,x=.int i/\Q (some i) H1:=rfl
end L2
namespace L2
open PySem PySem.Spec PyProof.Rows
section
variable{σ:St}{H:Hp}{Q:VK}{a b c:TE}{x:V}{vs:List V}{r r':R2}
theorem e_BM0{K:Fg}{T:String}{u:V->List V->Hp->VK->Prop}:tBM0 K T u a σ H Q=a σ H fun x H1=>tyV K T x H1/\u x [] H1 Q:=rfl
theorem zld:zdp r r' a b c σ H Q=a σ H fun x H1=>b σ H1 fun y H2=>r x y H2 fun z H3=>∃k,z=.bl k/\(if k=true then c σ H3 fun w' H4=>r' y w' H4 Q else Q (.bl false) H3):=rfl
theorem zlv:tDNewK σ H Q=∀p,H p=none->Q (.ref p) (upd H p (.dK [])):=rfl
theorem e_in{K:Fg}{neg:Bool}{y:V}:rIn K neg x y H Q=∃p xs,y=.ref p/\(SqL K H p xs\/SqT K H p xs)/\ua x=true/\xs.all ua=true/\Q (.bl (if neg then !inV x xs else inV x xs)) H:=rfl
end
theorem ka {X:Cx} {x:Str} {i:Int} {pos:Pos} (hg:Gl X x) (hm:∃t,X.mg x=some (Value.int i t)) (hd:(x==("__debug__" : Str))=false:=by decide):PE X (.Name x pos) (tC (.int i)):=by
  obtain⟨t,hm⟩:=hm;exact zas hg hm ⟨t,rfl⟩ hd
def Ite(K:Fg)(a:Addr):It :=
  ⟨fun i H=>∃xs x,SqL K H a xs/\xs[i]? = some x,
   fun i H v H'=>∃T x,v=.ref T/\H T=none/\H'=upd H T (.tup [.int i,x])/\∀xs,SqL K H a xs->xs[i]? = some x,
   fun i H=>∃xs,SqL K H a xs/\xs.length<=i⟩
def tnEnum(e it l:Addr)(i:Nat)(h:Heap):Prop:=(∃old,IsEnum h e it i old)/\h.IsListIter it l i
theorem zi2{P:Program}{w:World}{K:Fg}{elts:List Expr}{x1:Nat}{pos:Pos}(e it l:Addr)(hne:e≠it) :
    Turn P w K (.Tuple elts x1 pos) (Ite K l) [e,it] e (tnEnum e it l) where
  mem:=by simp
  obj:=fun i h st b hb=>by
    obtain⟨⟨old,he⟩,⟨o1,e1,c1,d1⟩⟩:=st;simp only[ZK,Zx,or_false]at hb
    rcases hb with rfl | rfl
    . exact⟨_,he,fun v q=>by cases q⟩
    . exact⟨o1,e1,fun v q=>by rw[d1]at q;cases q⟩
  keep:=fun i h h' st k=>by
    obtain⟨⟨old,he⟩,h1⟩:=st;exact⟨⟨old,k e (by simp) _ he⟩,h1.at fun o q=>k it (by simp) o q⟩
  item:=by
    intro X hP hw hK hc i pins s σ H E I hf st hg;subst hP hw hK;obtain⟨xs,x,qa,hx⟩:=hg;obtain⟨us,ru,pu,zu⟩:=I.list qa;obtain⟨u,hu,rxu⟩:=ru.get hx;obtain⟨⟨old,he⟩,h1⟩:=id st;refine wpAny_pyNext_enum_item he h1 pu.isList (x:=u) (by simpa using hu) hne fun h' a1 a2 a3 a4 hk => ?_
    have ltT:∀{c o},s.heap.get? c=some o->c≠s.heap.objs.size:=fun q=>Zs (Heap.lt_size q)
    have hit1:it≠s.heap.objs.size:=by obtain⟨_,q,_⟩:=h1;exact ltT q
    have hTe:s.heap.objs.size≠e:=Ne.symm (ltT he);refine⟨_,rfl,wpAny_letOwnedTupleGo_enum (s:={ s with heap:=h',toks:=s.toks+1 }) a1 fun h'' b1 sb => ?_⟩
    have I1:Inv X pins σ (upd H s.heap.objs.size (.tup [.int i,x])) { s with heap:=h'',toks:=s.toks+1 }:=I.turnedLaid (ch:=[e,it]) hf (fun b o hb q=>by
      simp only[ZK,Zx,or_false,not_or]at hb
      exact sb.extBut b o hb.1 (hk b o hb.1 hb.2 q)) (Zm _) ⟨by show 2<=sizeLine;decide,[.int i s.toks,u],.cons ⟨_,rfl⟩ (.cons rxu .nil),by
        have q:=sb.extBut _ _ hTe a3
        exact⟨_,q,rfl,_,rfl,rfl⟩⟩
    refine⟨.ref s.heap.objs.size,_,I1,rfl,⟨s.heap.objs.size,x,rfl,I.hok.fresh (Zm _),rfl,fun xs' q1 => ?_⟩,?_,fun b hb => ?_⟩
    . rw[I.list_inj q1 qa]
      exact hx
    . refine⟨⟨u,?_⟩,a2.extBut sb.extBut (Ne.symm hne)⟩
      have z:((i+1:Nat):Int)=(i:Int)+1:=by omega
      rw[z];exact b1
    . have hb':=(hf b hb).1
      rw[zp ?_]
      . exact hb'
      . simp only[ZK,Zx,or_false]at hb
        rcases hb with rfl | rfl
        . exact Ne.symm hTe
        . exact hit1
  done:=by
    intro X hP hw hK hc i pins s σ H E I hf st hg;subst hP hw hK;obtain⟨xs,qa,hend⟩:=hg;obtain⟨us,ru,pu,zu⟩:=I.list qa;obtain⟨⟨old,he⟩,h1⟩:=id st;have l1':=ru.length;obtain⟨f0,f1,f2,f3,f4,f5⟩:=hf it (by simp);exact wpAny_pyNext_enum_end (I.ok.hd hc) he h1 pu.isList (by simp;omega) fun h' eb=>⟨rfl,I.turned (t':=s.toks) (fun b o hb q=>eb b o hb q) f0 f1 f3 f4 f5⟩
  self:=fun _ _ _ _ _ st h=>by
    obtain⟨⟨old,he⟩,_⟩:=st;exact wpAny_pyIter_enum he h
def iEnum(K:Fg)(ta:TA):TI:=fun σ H R=>ta σ H fun vs H1=>∃a,vs=[.ref a]/\(∃xs,SqL K H1 a xs)/\R (Ite K a) H1
theorem e_enum{K:Fg}{ta:TA}{σ:St}{H:Hp}{R:It->Hp->Prop}:iEnum K ta σ H R=ta σ H fun vs H1=>∃a,vs=[.ref a]/\(∃xs,SqL K H1 a xs)/\R (Ite K a) H1:=rfl
theorem gz {X:Cx} {a:Expr} {ta:TA} {p pos tpos:Pos} {elts:List Expr} {x1:Nat} (hg:Gl X "enumerate") (hm:X.mg "enumerate" = none) (ha:PA X [a] ta) (hs:starEach [a] X.env=[(false,eval a X.env)]:=by rfl) :
    PI X (.Tuple elts x1 tpos) (.Call (.Name "enumerate" p) [a] [] pos) (iEnum X.K ta):=by
  intro pins s σ H R I h;refine Call_ (ud I hg hm fr (PyProof.Rows.callWith_type1 (thn (ha pos pins s σ H _ I h) fun us s1 ⟨vs,H1,I1,r1,q1⟩ => ?_) hs rfl));obtain⟨a,e,⟨xs,qa⟩,q⟩:=q1;subst e;obtain⟨u,rfl,ru⟩:=Vals.one r1;cases ru;obtain⟨its,_,pa,_⟩:=I1.list qa;refine call_enumerate_list pa.isList fun h' z1 z2 z3 kp => ?_
  refine wpAny_pyIter_enum (s:={ s1 with heap:=h' }) z1 ?_;have I2:Inv X pins σ H1 { s1 with heap:=h' }:=I1.kept (t':=s1.toks) kp;refine⟨s1.heap.objs.size+1,[s1.heap.objs.size+1,s1.heap.objs.size],_,_,H1,rfl,I2,zi2 _ _ a (by show(_:Nat)≠_;omega),⟨⟨_,z1⟩,z2⟩,fun c hc => ?_,q⟩
  have hle:s1.heap.objs.size<=c:=by
    simp only[ZK,Zx,or_false]at hc
    rcases hc with h | h <;> (rw[h];omega)
  exact I1.fpOk hle (I1.hok.fresh hle)
theorem zkp{K:Fg}{a:Addr}{xs:List V}{g:TG}{tb:TS}{D:Ends}{σ:St}{H:Hp}(Pv:Nat->St->Hp->Prop)(h0:Pv 0 σ H)(hl:∀i σ H,i<=xs.length->Pv i σ H->SqL K H a xs)
    (hs:∀i x σ H T,xs[i]? = some x->H T=none->Pv i σ H->g (.ref T) σ (upd H T (.tup [.int i,x])) fun σ2 H2=>tb { D with nx:=Pv (i+1),ct:=Pv (i+1),bk:=D.nx } σ2 H2)
    (hd:∀σ H,Pv xs.length σ H->D.nx σ H):ForW (Ite K a) g tb D σ H:=by
  refine⟨fun i m σ H=>m=xs.length-i/\i<=xs.length/\Pv i σ H,⟨xs.length,by simp,ZE _,h0⟩,?_⟩
  rintro i m σ H ⟨rfl,hi,p⟩
  have q:=hl i σ H hi p
  by_cases hlt:i<xs.length
  . refine .inr ⟨⟨xs,xs[i],q,by simp[hlt]⟩,Pv (i+1),fun σ' H' p'=>⟨xs.length-(i+1),by omega,rfl,hlt,p'⟩,fun x H' y => ?_⟩
    obtain⟨T,x',rfl,hT,rfl,hy⟩:=y;exact hs i x' σ _ T (hy xs q) hT p
  . have e:i=xs.length:=by omega
    subst e;exact .inl ⟨⟨xs,q,Zm _⟩,hd σ H p⟩
section
variable{X:Cx}
end
section
variable{X:Cx}
end
end L2
namespace L2
open PySem PySem.Spec PyProof.Rows
section
variable{X:Cx}{pins:List (Addr×Obj)}{σ:St}{H:Hp}{k:Nat}{f:Addr}{fd:FuncData}{ps:List Str}{sp:Sp}
theorem i6{s:Shared}{fp:List Addr}{x:V}{u:Value}{n:Int}{Q:Value->Shared->Prop}{E:Value->Shared->Prop}(F:FnOk X.prog X.w X.K X.mg X.base CX0 k f fd ps sp)(hb:Binds X.K fd ps [])(hr:Room k X.A.in1)
    (I:Inv X pins σ H s) (hf:∀b∈fp,FpOk X pins H b) (ho:∀b∈fp,∃o,s.heap.get? b=some o/\∀v,o.data≠.cell v) (rx:RelV x u)
    (h:sp [x] H (fun v H'=>v=.int n/\H'=H) E0)
    (q:∀t s',Inv X pins σ H s'->(∀b∈fp,∀o,s.heap.get? b=some o->s'.heap.get? b=some o)->Q (.int n t) s') :
    wpAny (model X.prog X.w) X.A.in1 (call (.ref f) [u]) Q E s:=by
  have I1:=I.pinned hf ho;have hl:[u].length=ps.length:=F.len [x] _ _ _ h;refine wpAny_call (codeAny_mono (F.run X.A.in1 X.stack s H ⟨[u],[]⟩ [u] [x] _ E0 hr I1.env0.in1 (hb s [u] I.kIn hl) (.cons rx .nil) h) fun r s' hq => ?_)
  cases r with
  | error e=>exact hq.elim
  | ok fl =>
    cases fl with
    | ret u' =>
      obtain⟨v,H',I2,rv,e1,e2⟩:=I1.after hq;subst e1 e2;obtain⟨t,rfl⟩:=rv;refine q t s' I2.unpinned fun b hb o e => ?_
      exact(I2.pin (b,o) (Zu _ (Zu _ (qq hb e)))).1
    | next=>exact False.elim hq
    | brk=>exact False.elim hq
    | cont=>exact False.elim hq
theorem Inv.turned1{s:Shared}{h':Heap}{it:Addr}{t':Nat}(I:Inv X pins σ H s)(hf:FpOk X pins H it)(k:∀b o,b≠it->s.heap.get? b=some o->h'.get? b=some o):Inv X pins σ H { s with heap:=h',toks:=t' }:=by
  obtain⟨f0,f1,f2,f3,f4,f5⟩:=hf;exact I.turned k f0 f1 f3 f4 f5
theorem zhk(kf:Nat->Int){l I0 S:Addr}{xs:List V}{R:Result->Shared->Prop}(hc:X.calm=true)(F:FnOk X.prog X.w X.K X.mg X.base CX0 k f fd ps sp)(hb:Binds X.K fd ps [])(hr:Room k X.A.in1)
    (hlI:l≠I0) (hlS:l≠S) (hSI:S≠I0) (hl:SqL X.K H l xs) (fS:FpOk X pins H S) (fI:FpOk X pins H I0)
    (turn:∀i x,xs[i]? = some x->sp [x] H (fun v H'=>v=.int (kf i)/\H'=H) E0)
    (hR:∀i x u s',xs[i]? = some x->RelV x u->(∀j,j<xs.length->kf i<=kf j/\(j<i->kf i<kf j))->Inv X pins σ H s'->R (.ok (.ret u)) s') :
    ∀(r j i:Nat) (s:Shared) (x:V) (vb:Value) (tb:Tok) (c:Nat),xs.length-(j+1)=r->j+1<=xs.length->Inv X pins σ H s->s.heap.get? S=some (seqObj "list" #[vb,.int (kf i) tb] c) ->
      s.heap.IsListIter I0 l (j+1)->xs[i]? = some x->RelV x vb->i<=j->(∀j',j'<=j->kf i<=kf j'/\(j'<i->kf i<kf j')) ->
      codeAny (model X.prog X.w) X.A (.builtin "min.loop" ⟨[.ref I0,.ref f,.ref S],[]⟩) R s:=by
  have hname:(toString "min" ++ toString ".loop" : String) = "min.loop" := by decide
  intro r
  induction r with
  | zero =>
    intro j i s x vb tb c hr' hj I hS hit hx rx hij hbest;have hin:j+1=xs.length:=by omega
    obtain⟨its,rv,pl,hz⟩:=I.list hl;have hlen:=rv.length;have W:=Walks.list (prog:=X.prog) (w:=X.w) (A:=X.A.in1) (I.ok.hd hc) I0 l hlI its.toArray;refine codeAny_builtin PySem.F.entry_min_loop ?_;rw[Around.under_plainId PySem.F.plain_min_loop _]
    show wpAny _ X.A.in1 (seqItems? (.ref S) >>= _) _ _ _
    refine wpAny_bind (wpAny_seqItems hS rfl ?_)
    show wpAny _ X.A.in1 (tryCatch (pyNext (.ref I0)) _ >>= _) _ _ _
    refine wpAny_bind (wpAny_tryCatch (W.done _ _ _ ⟨by rw[Zr,<-hlen,<-hin];exact hit,pl.isList⟩ fun h' tk' hk' => ?_));have I1:Inv X pins σ H { s with heap:=h',toks:=tk' }:=I.turned1 fI fun b o hb e=>hk' b o (by simpa using hb) e
    have hS':=hk' S _ (by simpa using hSI) hS;have s1:=Heap.SameBut.update h' S (Obj.mapSeq fun _=>(#[]:Array Value))
    show wpAny _ X.A.in1 (updateSeq S (fun _ => #[]) >>= _) _ _ _
    refine wpAny_bind ?_;refine wpAny_updateSeq hS' rfl (wpAny_bind (wpAny_letGo (wpAny_pure ?_)));exact hR i x vb _ hx rx (fun j' hj'=>hbest j' (by omega)) (I1.turned1 (t':=tk') fS fun b o hb e=>(s1.2 b hb).trans e)
  | succ r ih =>
    intro j i s x vb tb c hr' hj I hS hit hx rx hij hbest;have hlt:j+1<xs.length:=by omega
    obtain⟨its,rv,pl,hz⟩:=I.list hl;have hlen:=rv.length;have W:=Walks.list (prog:=X.prog) (w:=X.w) (A:=X.A.in1) (I.ok.hd hc) I0 l hlI its.toArray;refine codeAny_builtin PySem.F.entry_min_loop ?_;rw[Around.under_plainId PySem.F.plain_min_loop _]
    show wpAny _ X.A.in1 (seqItems? (.ref S) >>= _) _ _ _
    refine wpAny_bind (wpAny_seqItems hS rfl ?_)
    show wpAny _ X.A.in1 (tryCatch (pyNext (.ref I0)) _ >>= _) _ _ _
    refine wpAny_bind (wpAny_tryCatch (W.item (j+1) _ _ _ (by rw[Zr,<-hlen];exact hlt) ⟨hit,pl.isList⟩ fun v h' tk' hP hst' hk' => ?_));have hv:its[j+1]? = some v:=by simpa using hP
    have ey:xs[j+1]? = some xs[j+1]:=by simp[hlt]
    obtain⟨v',hv',ry⟩:=rv.get ey;rw[hv]at hv';cases hv';have I1:Inv X pins σ H { s with heap:=h',toks:=tk' }:=I.turned1 fI fun b o hb e=>hk' b o (by simpa using hb) e
    have hS':=hk' S _ (by simpa using hSI) hS;obtain⟨oI',hoI',hoc,hod⟩:=id hst'.1
    show wpAny _ X.A.in1 (tryCatch (holding [v] (call (.ref f) [v])) _ >>= _) _ _ _
    refine wpAny_bind (wpAny_tryCatch (wpAny_holding (i6 (fp:=[S,I0]) F hb hr I1 (fun b hb => ?_) (fun b hb => ?_) ry (turn (j+1) _ ey) fun t2 s2 I2 kp => ?_)))
    . simp only[ZK,Zx,or_false]at hb
      rcases hb with rfl | rfl
      . exact fS
      . exact fI
    . simp only[ZK,Zx,or_false]at hb
      rcases hb with rfl | rfl
      . exact⟨_,hS',fun v q=>by cases q⟩
      . exact⟨oI',hoI',fun v q=>by rw[hod]at q;cases q⟩
    have nS2:=kp S (by simp) _ hS';have nI2:=kp I0 (by simp) _ hoI';have hit2:s2.heap.IsListIter I0 l (j+1+1):=⟨oI',nI2,hoc,hod⟩
    show wpAny _ X.A.in1 (tryCatch (holding [v,.int (kf (j+1)) t2] (richCompare .Lt (.int (kf (j+1)) t2) (.int (kf i) tb) >>= _)) _ >>= _) _ _ _
    refine wpAny_bind (wpAny_tryCatch (wpAny_holding (wpAny_bind (CmpOf.ints_lt (prog:=X.prog) (w:=X.w) (A:=X.A.in1) (P:=fun i v=>∃t,v=.int (kf i) t) kf (fun i v h=>h) (j+1) i _ _ _ _ _ ⟨t2,rfl⟩ ⟨tb,rfl⟩ ?_))));refine wpAny_bind (wpAny_holding (wpAny_truthy_bool ?_));refine wpAny_bind (wpAny_letGo (wpAny_pure ?_))
    by_cases hb':kf (j+1)<kf i
    . have s1:=Heap.SameBut.update s2.heap S (Obj.mapSeq fun _ => #[v,.int (kf (j+1)) t2])
      obtain⟨c2,hc2⟩:∃c2,(s2.heap.update S (Obj.mapSeq fun _ => #[v,.int (kf (j+1)) t2])).get? S=some (seqObj "list" #[v,.int (kf (j+1)) t2] c2):=⟨_,get?_update_seq nS2 fun _ => #[v,.int (kf (j+1)) t2]⟩;simp only[hb',decide_true,if_true];refine wpAny_bind ?_;refine wpAny_updateSeq nS2 rfl (wpAny_bind (wpAny_letGo ?_));rw[hname];refine wpAny_pure ⟨plainId_quiet PySem.F.plain_min_loop _,ih (j+1) (j+1) _ _ v t2 c2 (by omega) hlt (I2.turned1 (t':=s2.toks) fS fun b o hb e=>(s1.2 b hb).trans e) hc2 ⟨oI',(s1.2 I0 hSI.symm).trans nI2,hoc,hod⟩ ey ry (Zm _) fun j' hj' => ?_⟩
      by_cases e:j'=j+1
      . subst e
        exact⟨by omega,fun _=>by omega⟩
      . have hb1:=hbest j' (by omega)
        have hb2:=hb1.1;exact⟨by omega,fun _=>by omega⟩
    . simp only[hb',decide_false,Bool.false_eq_true,if_false]
      refine wpAny_bind (wpAny_letGo ?_);rw[hname];refine wpAny_pure ⟨plainId_quiet PySem.F.plain_min_loop _,ih (j+1) i s2 x vb tb c (by omega) hlt I2 nS2 hit2 hx rx (by omega) fun j' hj' => ?_⟩
      by_cases e:j'=j+1
      . subst e
        exact⟨by omega,fun _=>by omega⟩
      . exact hbest j' (by omega)
theorem zj1(kf:Nat->Int){s:Shared}{l:Addr}{xs:List V}{Q:VK}{E:Value->Shared->Prop}(hc:X.calm=true)(F:FnOk X.prog X.w X.K X.mg X.base CX0 k f fd ps sp)(hb:Binds X.K fd ps [])(hr:Room k X.A.in1)
    (I:Inv X pins σ H s) (hl:SqL X.K H l xs) (hne:0<xs.length)
    (turn:∀i x,xs[i]? = some x->sp [x] H (fun v H'=>v=.int (kf i)/\H'=H) E0)
    (hQ:∀i x,xs[i]? = some x->(∀j,j<xs.length->kf i<=kf j/\(j<i->kf i<kf j))->Q x H) :
    wpAny (model X.prog X.w) X.A (call (.builtin "min") [.ref l] [(Str.ofString "key", .ref f)]) (EP X pins σ Q) E s:=by
  have hname:(toString "min" ++ toString ".loop" : String) = "min.loop" := by decide
  obtain⟨its,rv,pl,hz⟩:=I.list hl;have hlen:=rv.length;have hls:=pl.isList;obtain⟨ol,hol,_⟩:=id hls;have hll:l<s.heap.objs.size:=Heap.lt_size hol;refine kmk_tree PySem.F.kind_min PySem.F.plain_min PySem.F.entry_min (kmk_min_key _ _) ?_
  show wpAny _ X.A.in1 (Builtin.Builtins.bindParams "min" ["key", "default"] 0 ⟨[],[(Str.ofString "key", .ref f)]⟩ >>= _) _ _ s
  refine wpAny_bind (wpAny_of_eq (show Builtin.Builtins.bindParams "min" ["key", "default"] 0 ⟨[],[(Str.ofString "key", .ref f)]⟩=pure [some (.ref f),none] from rfl) ?_);refine wpAny_bind (wpAny_pure ?_);refine wpAny_bind (wpAny_pyIter_list hls ?_);refine wpAny_bind (wpAny_newList ?_ (ZE _));rw[hname];generalize hP:s.heap.push { cls:=.type "list_iterator", data:=.fields #[.ref l,.int 0 0] }=HP;have hS:HP.objs.size=s.heap.objs.size+1:=by rw[<-hP];exact size_push' ..
  have hlI:l≠s.heap.objs.size:=Zs hll;have hSI:HP.objs.size≠s.heap.objs.size:=by rw[hS];exact Ym (Yz _)
  have hlS:l≠HP.objs.size:=by rw[hS];exact Zs (Yv hll)
  refine wpAny_pure ⟨plainId_quiet PySem.F.plain_min_loop _,?_⟩;have old:∀b o,s.heap.get? b=some o->(HP.push (seqObj "list" #[] 0)).get? b=some o:=fun b o e=>Heap.get?_push_of_some _ (by rw[<-hP];exact Heap.get?_push_of_some _ e)
  have I0:Inv X pins σ H { s with heap:=HP.push (seqObj "list" #[] 0),toks:=s.toks }:=I.kept old
  have gI:(HP.push (seqObj "list" #[] 0)).get? s.heap.objs.size=some { cls:=.type "list_iterator", data:=.fields #[.ref l,.int 0 0] } :=
    Heap.get?_push_of_some _ (by rw[<-hP];exact Heap.get?_push_size _ rfl)
  have gS:(HP.push (seqObj "list" #[] 0)).get? HP.objs.size=some (seqObj "list" #[] 0):=Heap.get?_push_size _ rfl;have fI:FpOk X pins H s.heap.objs.size:=I.fpOk (Zm _) (I.hok.fresh (Zm _));have fS:FpOk X pins H HP.objs.size:=I.fpOk (by rw[hS];exact YC _) (I.hok.fresh (by rw[hS];exact YC _));have W:=Walks.list (prog:=X.prog) (w:=X.w) (A:=X.A.in1) (I.ok.hd hc) s.heap.objs.size l hlI its.toArray;refine codeAny_builtin PySem.F.entry_min_loop ?_;rw[Around.under_plainId PySem.F.plain_min_loop _]
  show wpAny _ X.A.in1 (seqItems? (.ref _) >>= _) _ _ _
  refine wpAny_bind (wpAny_seqItems gS rfl ?_)
  show wpAny _ X.A.in1 (tryCatch (pyNext (.ref s.heap.objs.size)) _ >>= _) _ _ _
  have hlist:(HP.push (seqObj "list" #[] 0)).IsList l its.toArray:=by
    obtain⟨o,e,r⟩:=hls;exact⟨o,old l o e,r⟩
  refine wpAny_bind (wpAny_tryCatch (W.item 0 _ _ _ (by rw[Zr,<-hlen];exact hne) ⟨⟨_,gI,rfl,rfl⟩,hlist⟩ fun v h' tk' hP' hst' hk' => ?_));have hv:its[0]? = some v:=by simpa using hP'
  have ey:xs[0]? = some xs[0]:=by simp[hne]
  obtain⟨v',hv',ry⟩:=rv.get ey;rw[hv]at hv';cases hv';have I1:Inv X pins σ H { s with heap:=h',toks:=tk' }:=I0.turned1 fI fun b o hb e=>hk' b o (by simpa using hb) e
  have hS':=hk' HP.objs.size _ (by simpa using hSI) gS;obtain⟨oI',hoI',hoc,hod⟩:=id hst'.1
  show wpAny _ X.A.in1 (tryCatch (holding [v] (call (.ref f) [v])) _ >>= _) _ _ _
  refine wpAny_bind (wpAny_tryCatch (wpAny_holding (i6 (fp:=[HP.objs.size,s.heap.objs.size]) F hb hr I1 (fun b hb => ?_) (fun b hb => ?_) ry (turn 0 _ ey) fun t2 s2 I2 kp => ?_)))
  . simp only[ZK,Zx,or_false]at hb
    rcases hb with rfl | rfl
    . exact fS
    . exact fI
  . simp only[ZK,Zx,or_false]at hb
    rcases hb with rfl | rfl
    . exact⟨_,hS',fun v q=>by cases q⟩
    . exact⟨oI',hoI',fun v q=>by rw[hod]at q;cases q⟩
  have nS2:=kp HP.objs.size (by simp) _ hS';have nI2:=kp s.heap.objs.size (by simp) _ hoI';have s1:=Heap.SameBut.update s2.heap HP.objs.size (Obj.mapSeq fun _ => #[v,.int (kf 0) t2]);obtain⟨c2,hc2⟩:∃c2,(s2.heap.update HP.objs.size (Obj.mapSeq fun _ => #[v,.int (kf 0) t2])).get? HP.objs.size=some (seqObj "list" #[v,.int (kf 0) t2] c2):=⟨_,get?_update_seq nS2 fun _ => #[v,.int (kf 0) t2]⟩
  show wpAny _ X.A.in1 (updateSeq HP.objs.size (fun _ => #[v,.int (kf 0) t2]) >>= _) _ _ _
  refine wpAny_bind ?_;refine wpAny_updateSeq nS2 rfl ?_;rw[hname];refine wpAny_pure ⟨plainId_quiet PySem.F.plain_min_loop _,zhk kf hc F hb hr hlI hlS hSI hl fS fI turn (fun i x u s' h1 h2 h3 h4=>⟨x,H,h4,h2,hQ i x h1 h3⟩) _ 0 0 _ _ v t2 c2 rfl hne (I2.turned1 (t':=s2.toks) fS fun b o hb e=>(s1.2 b hb).trans e) hc2 ⟨oI',(s1.2 _ hSI.symm).trans nI2,hoc,hod⟩ ey ry (Zm _) fun j' hj' => ?_⟩;have e:j'=0:=by omega
  subst e;exact⟨by omega,fun _=>by omega⟩
def tMinK(K:Fg)(sp:Sp)(ta:TA):TE:=fun σ H Q=>ta σ H fun vs H1=>∃(l:Addr) (xs:List V) (kf:Nat->Int),vs=[.ref l]/\SqL K H1 l xs/\0<xs.length /\
  (∀i x,xs[i]? = some x->sp [x] H1 (fun v H'=>v=.int (kf i)/\H'=H1) E0)/\∀i x,xs[i]? = some x->(∀j,j<xs.length->kf i<=kf j/\(j<i->kf i<kf j))->Q x H1
theorem e_minK{K:Fg}{ta:TA}{Q:VK}:tMinK K sp ta σ H Q=ta σ H fun vs H1=>∃(l:Addr) (xs:List V) (kf:Nat->Int),vs=[.ref l]/\SqL K H1 l xs/\0<xs.length /\
  (∀i x,xs[i]? = some x->sp [x] H1 (fun v H'=>v=.int (kf i)/\H'=H1) E0)/\∀i x,xs[i]? = some x->(∀j,j<xs.length->kf i<=kf j/\(j<i->kf i<kf j))->Q x H1:=rfl
theorem zff {y:Str} {e:Expr} {t:TA} {p p2 pos kpos:Pos} (F:FnAt X.prog X.w X.K X.mg X.base y k ps sp) (hr:Room (k+1) X.A) (hc:X.calm=true) (hgm:Gl X "min") (hm:X.mg "min" = none) (hg:Gl X y) (ha:PA X [e] t)
    (hdb:(y==("__debug__" : Str))=false:=by decide)
    (he:backTo pos (starEach [e] X.env)=(false,eval e X.env)::backTo pos (starEach [] X.env):=by rfl) (hpl:(backTo pos (starEach [e] X.env)).any (·.1)=false:=by rfl) :
    PE X (.Call (.Name "min" p) [e] [⟨some (Str.ofString "key"),.Name y p2,kpos⟩] pos) (tMinK X.K sp t):=by
  intro pins s σ H Q I h;obtain⟨f,fd,hmy,hk,hb,G⟩:=F.ex;refine wpAny_Call_Name_kw (ud I hgm hm zdc ?_);refine PyProof.Rows.callWith_kw (thn (ha pos pins s σ H _ I h) fun us s1 ⟨vs,H1,I1,r1,q1⟩ => ?_) he hpl rfl rfl;obtain⟨l,xs,kf,ev,hl,hne,turn,q⟩:=q1;subst ev;obtain⟨u,rfl,ru⟩:=Vals.one r1;cases ru;refine thn ((zfl (nm:=some (Str.ofString "key")) (kpos:=kpos) (zas (v:=.ref f) hg hmy rfl hdb) zi6) pos pins s1 σ H1 (fun zs H2=>zs=[.ref f]/\H2=H1) I1 ⟨rfl,rfl⟩) fun ws s2 ⟨zs,H2,I2,rz,ez,eh⟩ => ?_
  subst ez eh;obtain⟨w1,rfl,rw1⟩:=Vals.one rz;cases rw1;exact zj1 kf hc G hb hr.in1 I2 hl hne turn q
end
end L2
namespace L2
open PySem PySem.Spec PyProof.Rows
def CX1(P:Program)(w:World):CXT:=fun outer H s E e s'=>∃(ea C:Addr) (a0:Value) (B:Heap) (H':Hp),e=.ref ea/\s'.os=s.os/\AllBare s'.gens/\Un (frs outer) [] H H' s.heap s'.heap/\HOk P w H' s'.heap /\
  Heap.FlyingW B outer ea (.ref C) a0 s'.heap/\H' ea=none/\(∀b o,H' b=some o->∃ob,B.get? b=some ob)/\(∀b o,s.heap.get? b=some o->b∉frs outer->∃ob,B.get? b=some ob/\(H b=none->ob=o))/\E (.ref C) none H'
theorem pass1{P:Program}{w:World}{X:Cx}:fv (CX1 P w) X E0:=fun _ _ _ _ _ _ _ h=>by
  obtain⟨_,_,_,_,_,_,_,_,_,_,_,_,_,_,z⟩:=h;exact z.elim
theorem HOk.flown{P:Program}{w:World}{H:Hp}{h h' B:Heap}(x:HOk P w H h)(bh:B.StaysIn h)(bh':B.StaysIn h')(dom:∀b o,H b=some o->∃ob,B.get? b=some ob):HOk P w H h':=fun a o e =>
  (x a o e).stay (fun b u hb q=>by
    have hB:∃ob,B.get? b=some ob:=by
      rcases hb with rfl | hb
      . exact dom _ _ e
      . exact dom _ _ hb
    obtain⟨ob,hob⟩:=hB;have:=bh b ob hob;rw[q]at this;cases this
    exact bh' b u hob) (fun _ q=>q) fun _ _ q=>q
theorem dw{P:Program}{w:World}{H:Hp}{h:Heap}{a:Addr}{o:HO}(x:ObjOk P w H h a o):∃ob,h.get? a=some ob:=by
  cases o with
  | lst xs=>obtain⟨_,_,_,_,e⟩:=x;exact⟨_,e⟩
  | tup xs=>obtain⟨_,_,_,o,e,_⟩:=x;exact⟨_,e⟩
  | dK kvs=>obtain⟨_,_,_,_,o,_,_,e,_⟩:=x;exact⟨_,e⟩
  | dT kvs=>obtain⟨_,_,_,_,o,_,_,e,_⟩:=x;exact⟨_,e⟩
  | set S n=>obtain⟨o,_,_,_,e,_⟩:=x;exact⟨_,e⟩
  | ins C dx fs=>obtain⟨_,_,_,e,_⟩:=x;exact⟨_,e⟩
  | own y=>exact x
  | xd fs=>obtain⟨_,⟨_,_,_,e,_⟩,_⟩:=x;exact⟨_,e⟩
  | rng lo hi=>obtain⟨_,_,_,e⟩:=x;exact⟨_,e⟩
  | frz ob u=>obtain⟨e,_⟩:=x;exact⟨_,e⟩
  | tbl ps=>exact⟨_,(show h.get? a=some _ from x)⟩
  | met f y=>exact⟨_,(show h.get? a=some _ from x)⟩
  | ext φ=>obtain⟨_,e,_⟩:=x;exact e
section
variable{X:Cx}{pins:List (Addr×Obj)}{σ:St}{H:Hp}{s:Shared}
theorem cm{fs:List Addr}{H0 H1:Hp}{h0 h1 h2 B:Heap}(u:Un fs [] H0 H1 h0 h1)(dom2:∀b o,h0.get? b=some o->b∉fs->∃ob,B.get? b=some ob/\(H0 b=none->ob=o))
    (bh':B.StaysIn h2) (sl:h1.UpToSlots h2) (hfr:∀b∈fs,∀o,h1.get? b=some o->∀vs,o.data≠.fields vs):Un fs [] H0 H1 h0 h2 where
  keep:=fun b o e n hb _=>by
    obtain⟨ob,e1,e2⟩:=dom2 b o e hb;rw[e2 n]at e1;exact bh' b o e1
  slot:=fun b o e n hb hx=>by
    obtain⟨s1,e1⟩:=u.slot b o e n hb hx;obtain⟨s2,e2⟩:=sl b _ e1 (hfr b hb _ e1);exact⟨s2,e2⟩
  free:=u.free
  there:=fun b o e hx=>by
    by_cases hb:b∈fs
    . obtain⟨o1,e1⟩:=u.there b o e hx
      obtain⟨s2,e2⟩:=sl b _ e1 (hfr b hb _ e1);exact⟨_,e2⟩
    . obtain⟨ob,e1,_⟩:=dom2 b o e hb
      exact⟨ob,bh' b ob e1⟩
  tups:=u.tups
  frzs:=u.frzs
  tbls:=u.tbls
theorem zct{P:Program}{w:World}{K:Fg}{mg:Str->Option Value}{base:Heap}{N:List Str}{qual:Str}{scope:Scope}{f:Addr}{cd:Value}{A:Around}{outer:List Env}{s0:Shared}{H0:Hp}{E:XK}{h':Heap}{e C:Addr}{args:List Value}
    (hX:X=cxOf (CX1 P w) P w K mg base N qual scope f cd A outer s0 H0 E) (I:Inv X pins σ H s) (hx:Heap.MadeExcOf s.heap h' e (.ref C) args) (hE:E (.ref C) none H) (tk:Nat):X.xe (.ref e) { s with heap:=h',toks:=tk }:=by
  subst hX
  show wpAny _ _ (leaving _ (.ref e)) _ _ _
  have hst:s.heap.FunFrames base (envOfC qual scope s0.heap.objs.size f cd::outer):=I.stack;have hin:∀env∈(envOfC qual scope s0.heap.objs.size f cd::outer),∀b,env.frame=some b->b∈(envOfC qual scope s0.heap.objs.size f cd::outer).filterMap (·.frame):=fun env he b hb=>Yj.mpr ⟨env,he,hb⟩
  have getB:∀b o,s.heap.get? b=some o->b∉(envOfC qual scope s0.heap.objs.size f cd::outer).filterMap (·.frame)->(PySem.W.hideAll s.heap ((envOfC qual scope s0.heap.objs.size f cd::outer).filterMap (·.frame))).get? b=some o:=fun b o q n=>PySem.W.hideAll_get _ q n
  refine wpAny_leaves_madeW (s:={ s with heap:=h',toks:=tk }) (h:=s.heap) I.ok.frames rfl (fun b o q=>PySem.W.of_hideAll _ q) (PySem.W.funFrames_hide hst hin) hx fun h'' t x1 x2 x3 x4 => ?_
  have dom:∀b o,H b=some o->∃ob,(PySem.W.hideAll s.heap ((envOfC qual scope s0.heap.objs.size f cd::outer).filterMap (·.frame))).get? b=some ob:=fun b o q=>by
    have hlt:=I.hok.lt q
    have hnf:b∉(envOfC qual scope s0.heap.objs.size f cd::outer).filterMap (·.frame):=fun z=>by
      have:=I.stkFree b z;rw[q]at this;cases this
    obtain⟨ob,hob⟩:=dw (I.hok b o q);exact⟨ob,getB b ob hob hnf⟩
  have un:Un (frs outer) [] H0 H s0.heap s.heap:=I.base
  have dom2:∀b o,s0.heap.get? b=some o->b∉frs outer->∃ob,(PySem.W.hideAll s.heap ((envOfC qual scope s0.heap.objs.size f cd::outer).filterMap (·.frame))).get? b=some ob/\(H0 b=none->ob=o):=fun b o q n=>by
    have hnf:b∉(envOfC qual scope s0.heap.objs.size f cd::outer).filterMap (·.frame):=fun z=>by
      rcases ZK.mp (I.stkSub b z) with y | y
      . have h1:s0.heap.objs.size<=b:=by rw[y];exact I.ok.above
        exact absurd (Zh (Heap.lt_size q) h1) (ZJ _)
      . exact n y
    obtain⟨o1,e1⟩:=un.there b o q (by simp);refine⟨o1,getB b o1 e1 hnf,fun z => ?_⟩;have:=un.keep b o q z n (by simp);rw[e1]at this;exact Option.some.inj this
  have hfr:∀b∈frs outer,∀o,s.heap.get? b=some o->∀vs,o.data≠.fields vs:=fun b hb o q=>by
    obtain⟨_,o',e',n'⟩:=hst.mem (b:=b) (by
      obtain⟨env,he,hf⟩:=Yj.mp hb
      exact Yj.mpr ⟨env,Zv _ he,hf⟩)
    rw[q]at e';cases e';exact n'
  have sl:s.heap.UpToSlots h'':=(Heap.UpToSlots.of_keeps hx.keeps).trans x4;refine⟨e,C,_,_,H,rfl,I.os,I.bare,cm un dom2 x1.1 sl hfr,HOk.flown I.hok (fun b o q=>PySem.W.of_hideAll _ q) x1.1 dom,x1,?_,dom,dom2,hE⟩
  cases q:H e with
  | none=>rfl
  | some o =>
    obtain⟨ob,hob⟩:=dw (I.hok e o q);rw[hx.new]at hob;cases hob
theorem passX{P:Program}{w:World}{K:Fg}{mg:Str->Option Value}{base:Heap}{N:List Str}{qual:Str}{scope:Scope}{f:Addr}{cd:Value}{A:Around}{outer:List Env}{s0:Shared}{H0:Hp}{E E1:XK}
    (hX:X=cxOf (CX1 P w) P w K mg base N qual scope f cd A outer s0 H0 E) (hE:∀c H',E1 c none H'->E c none H'):fv (CX1 P w) X E1:=by
  subst hX;intro pins σ H s e s' I h;obtain⟨ea,C,a0,B,H',rfl,os,bare,un,hok,fl,hea,dom,dom2,hE1⟩:=h
  show wpAny _ _ (leaving _ (.ref ea)) _ _ _
  have hst:s'.heap.FunFrames B (envOfC qual scope s0.heap.objs.size f cd::outer):=fl.2.2.1;have un0:Un (frs outer) [] H0 H s0.heap s.heap:=I.base
  have sub:∀b∈frs outer,b∈frs (envOfC qual scope s0.heap.objs.size f cd::outer):=fun b hb=>by
    obtain⟨env,he,hf⟩:=Yj.mp hb;exact Yj.mpr ⟨env,Zv _ he,hf⟩
  have notL:∀b o,s0.heap.get? b=some o->b∉frs outer->b∉frs (envOfC qual scope s0.heap.objs.size f cd::outer):=fun b o q n z=>by
    rcases ZK.mp (I.stkSub b z) with y | y
    . have h1:s0.heap.objs.size<=b:=by rw[y];exact I.ok.above
      exact absurd (Zh (Heap.lt_size q) h1) (ZJ _)
    . exact n y
  refine wpAny_leaves_onW I.ok.frames rfl fl fun h'' x1 x2 => ?_
  have ut:=(un0.mono sub (fun _ z=>z)).trans un;have un1:Un (frs outer) [] H0 H' s0.heap s'.heap:=⟨fun b o e n hb hx=>ut.keep b o e n (notL b o e hb) hx,fun b o e n hb hx=>ut.slot b o e n (sub b hb) hx,ut.free,ut.there,ut.tups,ut.frzs,ut.tbls⟩
  have dom2':∀b o,s0.heap.get? b=some o->b∉frs outer->∃ob,B.get? b=some ob/\(H0 b=none->ob=o):=fun b o q n=>by
    obtain⟨o1,e1⟩:=un0.there b o q (by simp);obtain⟨ob,k1,k2⟩:=dom2 b o1 e1 (notL b o q n);refine⟨ob,k1,fun z => ?_⟩;have e2:=un0.keep b o q z n (by simp);rw[e1]at e2;cases e2;exact k2 (un0.free b _ q z (by simp))
  have hfr:∀b∈frs outer,∀o,s'.heap.get? b=some o->∀vs,o.data≠.fields vs:=fun b hb o q=>by
    obtain⟨_,o',e',n'⟩:=hst.mem (b:=b) (sub b hb);rw[q]at e';cases e';exact n'
  exact⟨ea,C,a0,B,H',rfl,os.trans I.os,bare,cm un1 dom2' x1.1 x2 hfr,HOk.flown hok fl.1 x1.1 dom,x1,hea,dom,dom2',hE _ _ hE1⟩
def ExcO(ea C:Addr):HO:=.ext fun h=>∃o,h.get? ea=some o/\o.cls=.ref C/\∃vs,o.data=.fields vs
abbrev Cx.suite(X:Cx)(e:Value):Cx:={ X with A:=X.A.mark (some e),calm:=false,xe:=fun _ _=>False }
theorem Inv.suite(I:Inv X pins σ H s)(e:Value):Inv (X.suite e) pins σ H s :=
  ⟨⟨I.ok.mod,I.ok.kind,I.ok.glob,I.ok.blt,I.ok.above,I.ok.inj,I.ok.has,I.ok.cab,(fun z=>by cases z),I.ok.frames,I.ok.stk,I.ok.exf,I.ok.bs,I.ok.bsz,I.ok.noex,I.ok.exfs,I.ok.funs,I.ok.frf⟩,I.os,I.bare,I.base,I.loc,I.cell,I.free,I.freeC,I.pin,I.hok,I.len⟩
theorem Inv.unsuite{e:Value}(I:Inv (X.suite e) pins σ H s)(hd:X.calm=true->X.A.handled=none):Inv X pins σ H s :=
  ⟨⟨I.ok.mod,I.ok.kind,I.ok.glob,I.ok.blt,I.ok.above,I.ok.inj,I.ok.has,I.ok.cab,hd,I.ok.frames,I.ok.stk,I.ok.exf,I.ok.bs,I.ok.bsz,I.ok.noex,I.ok.exfs,I.ok.funs,I.ok.frf⟩,I.os,I.bare,I.base,I.loc,I.cell,I.free,I.freeC,I.pin,I.hok,I.len⟩
end
abbrev VE:List Value:=[.type "ValueError", .type "Exception", .type "BaseException", .type "object"]
structure Err(K:Fg)(C:Addr):Prop where
  ok:PySem.W.excIn K C VE "ValueError.__new__" = true
theorem Err.obj{K:Fg}{C:Addr}{h:Heap}(c:Err K C)(X:K.In h):∃bm N nm q bs hdct sn sub ab col dd k0 k1 k2 k3 k5 mN,h.get? C=some (excClassObj nm q C N bs bm hdct sn sub ab col dd k0 k1 k2 k3 k5 "ValueError.__new__") /\
    h.Ns N mN/\mN "__init__" = none/\OwnTail h VE bm/\∀v b,PySem.W.mroIn K C v=some b->(Value.ref C::bm).contains v=b:=by
  have q:=c.ok;unfold PySem.W.excIn at q
  split at q
  case h_2=>cases q
  case h_1 dd cd sl ho =>
    split at q
    case h_2=>cases q
    case h_1 C' bm k0 k1 k2 k3 n k5 hm hs =>
      simp only[Bool.and_eq_true,beq_iff_eq,Bool.not_eq_true']at q
      have hmro:∀v b,PySem.W.mroIn K C v=some b->(Value.ref C'::bm).contains v=b:=fun v b e=>by
        unfold PySem.W.mroIn PySem.W.clsIn at e;rw[ho]at e;simp only[Option.bind_some,hm,List.isEmpty_cons,Bool.false_eq_true,if_false,Option.some.injEq]at e;exact e
      obtain⟨⟨⟨⟨⟨e1,e2⟩,hdel⟩,ht⟩,hok⟩,hni⟩:=q;subst e1;subst e2;obtain⟨nm,bs,mro,ns,qn,hd,sn,sub,ab,col,del⟩:=cd;have hm':mro=Value.ref C'::bm:=hm;have hdel':del=false:=hdel;subst hm';subst hdel'
      have hsl:sl = #[k0,k1,k2,k3,some (.builtin "ValueError.__new__"),k5]:=by
        cases sl with
        | mk l =>
          have hs':l=[k0,k1,k2,k3,some (.builtin "ValueError.__new__"),k5]:=hs;rw[hs']
      subst hsl;exact⟨bm,ns,nm,qn,bs,hd,sn,sub,ab,col,dd,k0,k1,k2,k3,k5,_,X _ _ ho,.of_isNs (PySem.W.isNs_of_in X hok),PySem.W.nsMap_none_of_in X hok hni,PySem.W.tail_of_in X ht,hmro⟩
section
variable{M:Model}{A:Around}{E:Value->Shared->Prop}
theorem zav{h:Heap}{g:Array GenState}{d:Drawn}{t:Nat}{os:OsState}{e C D:Addr}{oe:Obj}{Q:Bool->Shared->Prop}{b:Bool}{K:Fg}(X:K.In h)(cC:Err K C)(cD:Err K D)(he:h.get? e=some oe)(hcls:oe.cls=.ref C)
    (hsub:PySem.W.mroIn K C (.ref D)=some b) (hq:Q b ⟨h,g,d,t,os⟩):wpAny M A (excMatches (.ref e) (.ref D)) Q E ⟨h,g,d,t,os⟩:=by
  obtain⟨bm,N,nm,q,bs,hdct,sn,sub,ab,col,dd,k0,k1,k2,k3,k5,mN,hC,hN,hni,T,hm⟩:=cC.obj X;obtain⟨bm',N',nm',q',bs',hdct',sn',sub',ab',col',dd',k0',k1',k2',k3',k5',mN',hD,hN',hni',T',hm'⟩:=cD.obj X;have hcB:(Value.ref D::bm').contains (.type "BaseException")=true:=by rw[List.contains_cons,T'.hasType (X := "BaseException") (b:=true) (by decide +kernel),Bool.or_true]
  have hcD:=hm _ _ hsub;have f:=tc_notTuple;unfold excMatches
  repeat (first | (with_reducible refine wpAny_loadPart_at he ?_;rw[hcls]) | with_reducible refine wpAny_loadPart_at hD ?_ | (with_reducible refine wpAny_isSubtype_exc hD ?_;rw[hcB]) | (with_reducible refine wpAny_isSubtype_exc hC ?_;rw[hcD]) | wp_step)
  cases b <;> (try wp_walk) <;> exact hq
end
end L2
namespace L2
open PySem PySem.Spec PyProof.Rows
theorem PS.nox{X:Cx}{st:Stmt}{t:TS}(h:PS X.nox st t):PS X st t:=fun pins s σ H D I hw =>
  wpAny_mono (h pins s σ H D (I.wish _) hw) (fun _ _ z=>z.unwish) fun _ _ z=>z.elim
def tryXe(X:Cx)(pn:List (Addr×Obj))(J:St->Value->Hp->Prop):Value->Shared->Prop:=fun e s' =>
  ∃pins σ H s,Inv { X with pn:=pn,xe:=fun _ _=>False } pins σ H s/\CX1 X.prog X.w X.stack H s (fun c _ H'=>J σ c H') e s'
abbrev bq(X:Cx)(pn:List (Addr×Obj))(J:St->Value->Hp->Prop):Cx:={ X with pn:=pn,xe:=tryXe X pn J }
def zhe(X:Cx)(J:St->Value->Hp->Prop):Prop:=∀pins σ H s e s',Inv X pins σ H s->CX1 X.prog X.w X.stack H s (fun c _ H'=>J σ c H') e s'->X.xe e s'
theorem zh3{X:Cx}{pn:List (Addr×Obj)}{J:St->Value->Hp->Prop}:zhe (bq X pn J) J:=fun pins σ H s e s' I h =>
  ⟨pins,σ,H,s,Inv.unwish (X:={ X with pn:=pn,xe:=fun _ _=>False }) (E:=tryXe X pn J) I,h⟩
theorem a8{X:Cx}{P:Program}{w:World}{K:Fg}{mg:Str->Option Value}{base:Heap}{N:List Str}{qual:Str}{scope:Scope}{f:Addr}{cd:Value}{A:Around}{outer:List Env}{s0:Shared}{H0:Hp}{E:XK}
    (hX:X=cxOf (CX1 P w) P w K mg base N qual scope f cd A outer s0 H0 E):zhe X (fun _ c H'=>E c none H'):=fun pins σ H s e s' I h=>by
  have q:=passX (X:=X) (E1:=fun c _ H'=>E c none H') hX (fun _ _ z=>z) pins σ H s e s' I;subst hX;exact q h
structure FnAtX(P:Program)(w:World)(K:Fg)(mg:Str->Option Value)(base:Heap)(name:Str)(k:Nat)(ps:List Str)(sp:Sp):Prop where
  ex:∃f fd,mg name=some (.ref f)/\PySem.W.keepIn K (.ref f)=true/\Binds K fd ps []/\FnOk P w K mg base (CX1 P w) k f fd ps sp
theorem FnAtX.of{P:Program}{w:World}{K:Fg}{mg:Str->Option Value}{base:Heap}{name:Str}{st:Stmt}{N ps:List Str}{k:Nat}{sp:Sp}(D:zc K mg name st ps)(S:zr N ps (zk st))(len:∀vs H Q E,sp vs H Q E->vs.length=ps.length)
    (hbody:∀(f:Addr) (cdv:Value) (A:Around) (outer:List Env) (s:Shared) (H:Hp) (vs:List V) (Q:VK) (E:XK),Room k (A.deeper (envOfC name (zk st) s.heap.objs.size f cdv))->sp vs H Q E ->
      ∃t,PSs (cxOf (CX1 P w) P w K mg base N name (zk st) f cdv A outer s H E) (xf st) t/\t { nx:=fun _ H'=>Q .non H',rt:=Q } (start N vs) H):FnAtX P w K mg base name (k+1) ps sp:=by
  obtain⟨f,fd,hm,F,hb⟩:=D.ex;refine⟨f,fd,hm,F.kp,hb,?_⟩;obtain⟨oc,od,kV,doc,pm,an,cdv,ct,osl,rfl,lk,hcd⟩:=F.ex;exact fn_of lk hcd S len (hbody f cdv)
section
variable{X:Cx}{x:Str}{k:Nat}{ps:List Str}{sp:Sp}{p pos:Pos}{e:Expr}{es:List Expr}{t:TA}
def zhf(sp:Sp)(J:St->Value->Hp->Prop)(t:TA):TE:=fun σ H Q=>t σ H fun vs H1=>sp vs H1 Q fun c _ H'=>J σ c H'
theorem zlr{J:St->Value->Hp->Prop}{σ:St}{H:Hp}{Q:VK}:zhf sp J t σ H Q=t σ H fun vs H1=>sp vs H1 Q fun c _ H'=>J σ c H':=rfl
theorem cw {J:St->Value->Hp->Prop} (F:FnAtX X.prog X.w X.K X.mg X.base x k ps sp) (hr:Room k X.A) (hx:zhe X J) (hg:Gl X x) (ha:PA X (e::es) t) (hdb:(x==("__debug__" : Str))=false:=by decide) (he:starEach (e::es) X.env=(false,eval e X.env)::starEach es X.env:=by rfl)
    (hpl:(backTo pos (starEach es X.env)).any (·.1)=false:=by rfl):PE X (.Call (.Name x p) (e::es) [] pos) (zhf sp J t):=by
  obtain⟨f,fd,hm,hk,hb,G⟩:=F.ex;intro pins s σ H Q I h;refine wpAny_Call_Name_kw (il I hg hm ?_ hdb);refine PySem.W.callWith_K (h₀:=X.base) I.ok.mod.kin hk (thn (ha pos pins s σ H _ I h) fun us s1 ⟨vs,H1,I1,r,q⟩=>⟨I1.kIn,?_⟩) he hpl;have hl:(us++[]).length=ps.length:=by rw[Ye,<-r.length];exact G.len _ _ _ _ q
  refine wpAny_call (codeAny_mono (G.run X.A X.stack s1 H1 ⟨us,[]⟩ us vs Q _ hr I1.env0 (by have:=hb s1 us I1.kIn hl;rw[Ye]at this;exact this) r q) fun r' s' hq => ?_)
  cases r' with
  | error e=>exact hx pins σ H1 s1 e s' I1 hq
  | ok fl =>
    cases fl with
    | ret u=>exact I1.after hq
    | next=>exact False.elim hq
    | brk=>exact False.elim hq
    | cont=>exact False.elim hq
theorem gp (F:FnAtX X.prog X.w X.K X.mg X.base x k ps sp) (hr:Room k X.A) (hg:Gl X x) (ha:PA X (e::es) t) (hdb:(x==("__debug__" : Str))=false:=by decide) (he:starEach (e::es) X.env=(false,eval e X.env)::starEach es X.env:=by rfl)
    (hpl:(backTo pos (starEach es X.env)).any (·.1)=false:=by rfl):PE X (.Call (.Name x p) (e::es) [] pos) (zb3 sp [] E0 t):=by
  obtain⟨f,fd,hm,hk,hb,G⟩:=F.ex;exact ze6 G hr hg hm hk hb .nil pass1 ha hdb he hpl
end
section
variable{X:Cx}{C:Addr}{x:Str}{np cpos pos:Pos}
def zig(X:Cx)(C:Addr)(R:Hp->Prop):Prop:=∀pins σ H s h' e args tk,Inv X pins σ H s->Heap.MadeExcOf s.heap h' e (.ref C) args->R H->X.xe (.ref e) { s with heap:=h',toks:=tk }
theorem jy{P:Program}{w:World}{K:Fg}{mg:Str->Option Value}{base:Heap}{N:List Str}{qual:Str}{scope:Scope}{f:Addr}{cd:Value}{A:Around}{outer:List Env}{s0:Shared}{H0:Hp}{E:XK}
    (hX:X=cxOf (CX1 P w) P w K mg base N qual scope f cd A outer s0 H0 E):zig X C (fun H=>E (.ref C) none H):=fun pins σ H s h' e args tk I hx hE=>zct hX I hx hE tk
def zjv(R:Hp->Prop)(ta:TA):TS:=fun _ σ H=>ta σ H fun vs H1=>vs.length<=sizeLine/\R H1
theorem zl1{R:Hp->Prop}{ta:TA}{D:Ends}{σ:St}{H:Hp}:zjv R ta D σ H=ta σ H fun vs H1=>vs.length<=sizeLine/\R H1:=rfl
theorem cr {e:Expr} {es:List Expr} {R:Hp->Prop} {ta:TA} (hc:X.calm=true) (c:Err X.K C) (hg:Gl X x) (hm:X.mg x=some (.ref C)) (hr:zig X C R) (ha:PA X (e::es) ta) (hdb:(x==("__debug__" : Str))=false:=by decide)
    (he:starEach (e::es) X.env=(false,eval e X.env)::starEach es X.env:=by rfl) (hpl:(backTo cpos (starEach es X.env)).any (·.1)=false:=by rfl) :
    PS X (.Raise (some (.Call (.Name x np) (e::es) [] cpos)) none pos) (zjv R ta):=by
  intro pins s σ H D I h;obtain⟨bm,N,nm,q,bs,hdct,sn,sub,ab,col,dd,k0,k1,k2,k3,k5,mN,hC,hN,hni,T,_⟩:=c.obj I.ok.mod.kin
  refine wpAny_Raise_call_subU (C:=C) (nm:=nm) (q:=q) (N:=N) (bs:=bs) (bm:=bm) (hdct:=hdct) (sn:=sn) (sub:=sub) (ab:=ab) (col:=col) (dd:=dd) (k0:=k0) (k1:=k1) (k2:=k2) (k3:=k3) (k5:=k5)
    PySem.F.excBase_ValueError (by decide +kernel) PySem.F.excBase_ValueError (mN:=mN) (T.hasType PySem.F.excBase_ValueError.hasBase) (I.ok.hd hc) (by rw[he];show(false||(backTo cpos (starEach es X.env)).any (·.1))=false;rw[hpl];rfl) hni (il I hg hm ⟨rfl,?_⟩ hdb)
  have hrun:=ha cpos pins s σ H _ I h;rw[he]at hrun ⊢;refine Calls.evalArgs_plain (wpAny_mono hrun (fun us s1 h1 => ?_) fun _ _ z=>z);obtain⟨vs,H1,I1,r1,hz,q1⟩:=h1;exact⟨rfl,by rw[<-r1.length];exact hz,I1.bk _ _ hC,hN.keeps I1.bk,T.keeps I1.bk,fun h' e hx=>hr pins σ H1 s1 h' e us s1.toks I1 hx q1⟩
end
section
variable{X:Cx}{pins:List (Addr×Obj)}{σ:St}{H:Hp}{s:Shared}
theorem Inv.intry(I:Inv X pins σ H s)(J:St->Value->Hp->Prop):Inv (bq X (X.pn++pins) J) [] σ H s :=
  ⟨⟨I.ok.mod,I.ok.kind,I.ok.glob,I.ok.blt,I.ok.above,I.ok.inj,I.ok.has,I.ok.cab,I.ok.hd,I.ok.frames,I.ok.stk,I.ok.exf,I.ok.bs,I.ok.bsz,I.ok.noex,I.ok.exfs,I.ok.funs,I.ok.frf⟩,I.os,I.bare,I.base,I.loc,I.cell,I.free,I.freeC,fun p hp=>I.pin p (by simpa using hp),I.hok,I.len⟩
theorem Inv.outtry{pl:List (Addr×Obj)}{E:Value->Shared->Prop}(I:Inv { X with pn:=X.pn++pins,xe:=E } pl σ H s):Inv X pins σ H s :=
  ⟨⟨I.ok.mod,I.ok.kind,I.ok.glob,I.ok.blt,I.ok.above,I.ok.inj,I.ok.has,I.ok.cab,I.ok.hd,I.ok.frames,I.ok.stk,I.ok.exf,I.ok.bs,I.ok.bsz,I.ok.noex,I.ok.exfs,I.ok.funs,I.ok.frf⟩,I.os,I.bare,I.base,I.loc,I.cell,I.free,I.freeC,fun p hp=>I.pin p (ZQ _ hp),I.hok,I.len⟩
theorem SP.outtry{J:St->Value->Hp->Prop}{D:Ends}{f:Flow}{s':Shared}(h:SP (bq X (X.pn++pins) J) [] D f s'):SP X pins D f s':=by
  cases f with
  | next=>obtain⟨a,b,I,q⟩:=h;exact⟨a,b,I.outtry,q⟩
  | brk=>obtain⟨a,b,I,q⟩:=h;exact⟨a,b,I.outtry,q⟩
  | cont=>obtain⟨a,b,I,q⟩:=h;exact⟨a,b,I.outtry,q⟩
  | ret u=>obtain⟨v,a,b,I,r,q⟩:=h;exact⟨v,a,b,I.outtry,r,q⟩
def zhs(i:Nat)(D:Ends):Ends:={ nx:=fun σ H=>D.nx (σ.set i none) H,rt:=D.rt,bk:=fun σ H=>D.bk (σ.set i none) H,ct:=fun σ H=>D.ct (σ.set i none) H }
def tTryAs(K:Fg)(D0:Addr)(i:Nat)(tb:(St->Value->Hp->Prop)->List (Addr×Obj)->TS)(ts:Value->TS):TS:=fun D σ H=>∃J:St->Value->Hp->Prop,(∀pn,tb J pn D σ H) /\
  ∀σ1 c H1,J σ1 c H1->∃C,c=.ref C/\Err K C/\PySem.W.mroIn K C (.ref D0)=some true/\∀e ea,H1 ea=none->ts e (zhs i D) (σ1.set i (some (.ref ea))) (upd H1 ea (ExcO ea C))
def tTry0(K:Fg)(D0:Addr)(tb:(St->Value->Hp->Prop)->List (Addr×Obj)->TS)(ts:Value->TS):TS:=fun D σ H=>∃J:St->Value->Hp->Prop,(∀pn,tb J pn D σ H) /\
  ∀σ1 c H1,J σ1 c H1->∃C,c=.ref C/\Err K C/\PySem.W.mroIn K C (.ref D0)=some true/\∀e,ts e D σ1 H1
theorem zlx{body:List Stmt}{b0:Stmt}{suite:List Stmt}{x:Str}{np hpos pos:Pos}{D0:Addr}{tb:(St->Value->Hp->Prop)->List (Addr×Obj)->TS}{ts:Value->TS}(cD:Err X.K D0)(hg:Gl X x)(hm:X.mg x=some (.ref D0))
    (hb:∀J pn,PSs (bq X pn J) body (tb J pn)) (hs:∀e,PSs (X.suite e) (b0::suite) (ts e)) (hst:X.stack=X.env::X.outer:=by rfl) (hf:X.env.frame=some X.env.locals:=by rfl) (hdb:(x==("__debug__" : Str))=false:=by decide) :
    PS X (.Try body [.ExceptHandler (some (.Name x np)) none (b0::suite) hpos] [] [] pos) (tTry0 X.K D0 tb ts):=by
  intro pins s σ H D I h;obtain⟨J,hbody,hcatch⟩:=h;refine wpAny_Try_except (wpAny_mono (hb J (X.pn++pins) [] s σ H D (I.intry J) (hbody _)) (fun f s1 h1 => ?_) fun e s1 h1 => ?_)
  . have h2:=SP.outtry h1
    cases f with
    | next =>
      obtain⟨a,b,I1,q⟩:=h2;exact wpAny_execs_nil ⟨a,b,I1,q⟩
    | brk=>exact h2
    | cont=>exact h2
    | ret u=>exact h2
  . obtain⟨pins',σ1,H1,s2,I2,hcx⟩:=h1
    have J2:Inv X pins σ1 H1 s2:=I2.outtry;obtain⟨ea,C,a0,B,H',e1,os,bare,un,hok,fl,hea,dom,dom2,hJ⟩:=hcx;subst e1;obtain⟨C2,eC,cC,hsub,hsuite⟩:=hcatch σ1 _ H' hJ;obtain rfl:C=C2:=by injection eC
    have hfr0:X.A.frames=some (X.env::X.outer):=by rw[<-hst];exact I.ok.frames
    have fl0:Heap.FlyingW B (X.env::X.outer) ea (.ref C) a0 s1.heap:=by rw[<-hst];exact fl
    have hfr:∀b∈frs X.stack,∀o,s1.heap.get? b=some o->∀vs,o.data≠.fields vs:=fun b hb o q=>by
      obtain⟨_,o',e',n'⟩:=fl.2.2.1.mem hb;rw[q]at e';cases e';exact n'
    refine wpAny_looks_onW hfr0 hf fl0 fun h4 held4 sm4 => ?_
    refine wpAny_landsW held4 fun h5 fl5 sm5 => ?_
    have at5:∀{h6:Heap} {sx:Shared},sx.heap=h6->sx.os=s1.os->sx.gens=s1.gens->B.StaysIn h6->s1.heap.UpToSlots h6->Inv X pins σ1 H' sx:=fun {h6 sx} e1 e2 e3 k1 k2=>by
      subst e1;exact J2.call' (ch:=[]) (e2.trans os) (cm un dom2 k1 k2 hfr) (HOk.flown hok fl.1 k1 dom) (by rw[e3];exact bare) (fun b z=>absurd z (by simp))
    have I5:Inv X pins σ1 H' { s1 with heap:=h5 }:=at5 (sx:={ s1 with heap:=h5 }) rfl rfl rfl fl5.1 (sm4.trans sm5);obtain⟨oe5,he5,hc5⟩:=fl5.there;refine wpAny_handleBy_cons (codeAny_handlers_test (il (I5.suite (.ref ea)) hg hm ?_ hdb)) (by intro q;cases q);refine zav I5.kIn cC cD he5 hc5 hsub ?_
    show codeAny _ _ _ _ _
    refine codeAny_handlers_suite ?_;refine lands_againW fl5 fun h6 fl6 sm6 => ?_
    have I6:Inv X pins σ1 H' { s1 with heap:=h6 }:=at5 (sx:={ s1 with heap:=h6 }) rfl rfl rfl fl6.1 ((sm4.trans sm5).trans sm6);refine wpAny_mono (hs (.ref ea) pins _ _ _ D (I6.suite (.ref ea)) (hsuite _)) (fun f s9 h9 => ?_) fun _ _ z=>z.elim
    show SP X pins D f s9
    cases f with
    | next=>obtain⟨σ9,H9,I9,q9⟩:=h9;exact⟨_,_,I9.unsuite I.ok.hd,q9⟩
    | brk=>obtain⟨σ9,H9,I9,q9⟩:=h9;exact⟨_,_,I9.unsuite I.ok.hd,q9⟩
    | cont=>obtain⟨σ9,H9,I9,q9⟩:=h9;exact⟨_,_,I9.unsuite I.ok.hd,q9⟩
    | ret u=>obtain⟨v9,σ9,H9,I9,r9,q9⟩:=h9;exact⟨_,_,_,I9.unsuite I.ok.hd,r9,q9⟩
theorem suK{e:Value}:(X.suite e).K=X.K:=rfl
theorem noxK:X.nox.K=X.K:=rfl
theorem tryK{pn:List (Addr×Obj)}{J:St->Value->Hp->Prop}:(bq X pn J).K=X.K:=rfl
theorem zli{K:Fg}{D0:Addr}{i:Nat}{tb:(St->Value->Hp->Prop)->List (Addr×Obj)->TS}{ts:Value->TS}{D:Ends}:tTryAs K D0 i tb ts D σ H=∃J:St->Value->Hp->Prop,(∀pn,tb J pn D σ H) /\
  ∀σ1 c H1,J σ1 c H1->∃C,c=.ref C/\Err K C/\PySem.W.mroIn K C (.ref D0)=some true/\∀e ea,H1 ea=none->ts e (zhs i D) (σ1.set i (some (.ref ea))) (upd H1 ea (ExcO ea C)):=rfl
theorem e_try0{K:Fg}{D0:Addr}{tb:(St->Value->Hp->Prop)->List (Addr×Obj)->TS}{ts:Value->TS}{D:Ends}:tTry0 K D0 tb ts D σ H=∃J:St->Value->Hp->Prop,(∀pn,tb J pn D σ H) /\
  ∀σ1 c H1,J σ1 c H1->∃C,c=.ref C/\Err K C/\PySem.W.mroIn K C (.ref D0)=some true/\∀e,ts e D σ1 H1:=rfl
end
end L2
namespace L2
open PySem PySem.Spec PyProof.Rows
structure ErrQ(K:Fg)(C:Addr):Prop extends Err K C where
  ga:PySem.W.findIn K (.ref C) "__getattribute__" = some (some (.builtin "BaseException.__getattribute__"))
  gn:PySem.W.findIn K (.ref C) "__getattr__" = some none
  gc:PySem.W.findIn K (.ref C) "__class__" = some (some (.builtin "object.__class__"))
section
variable{prog:Program}{w:World}{A:Around}{E:Value->Shared->Prop}{h:Heap}{g:Array GenState}{d:Drawn}{t:Nat}{os:OsState}{a C:Addr}{o:Obj}{K:Fg}
end
section
variable{X:Cx}{pins:List (Addr×Obj)}{σ:St}{H:Hp}{s:Shared}
end
theorem zcv {K:Fg} {h:Heap} {mg:Str->Option Value} (X:K.In h) (G:h.Ns mainGlobals mg) {name:Str} {C:Addr} (e:PySem.W.nsIn K mainGlobals name=some (some (.ref C))) (q:PySem.W.excIn K C VE "ValueError.__new__" = true)
    (g1:PySem.W.findIn K (.ref C) "__getattribute__" = some (some (.builtin "BaseException.__getattribute__"))) (g2:PySem.W.findIn K (.ref C) "__getattr__" = some none) (g3:PySem.W.findIn K (.ref C) "__class__" = some (some (.builtin "object.__class__"))) :
    mg name=some (.ref C)/\ErrQ K C:=⟨PySem.W.mg_of X G e,⟨⟨q⟩,g1,g2,g3⟩⟩
theorem zk3{K:Fg}{C:Addr}:PySem.W.kitOne K (.ref C) (.ref C)=some true:=by
  unfold PySem.W.kitOne;rw[if_pos (by simp)]
theorem zlj {K:Fg} {C:Addr} {b:Bool} (h3:PySem.W.subIn K (.ref C) (.type "ValueError")=some b):PySem.W.kitOne K (.ref C) (.type "ValueError")=some b:=by
  unfold PySem.W.kitOne PySem.W.kitCls;rw[if_neg (by simp)]
  show(if PySem.W.kitMeta "ValueError" = true then PySem.W.subIn K (.ref C) (.type "ValueError") else none)=some b
  rw[if_pos (by decide +kernel)];exact h3
theorem Same.seqT{K:Fg}{H H':Hp}{a:Addr}{xs:List V}(e:Same H H')(h:SqT K H a xs):SqT K H' a xs:=by
  rcases h with (h | ⟨o,h⟩) | h
  . exact .inl (.inl (e _ _ h))
  . exact .inl (.inr ⟨o,e _ _ h⟩)
  . exact .inr h
end L2
namespace L2
open PySem PySem.Spec PyProof.Rows
inductive Tr where
  | lf (v:V) | ls (ts:List Tr) | tp (ts:List Tr)
mutual
def TrAt(K:Fg)(H:Hp):Tr->V->Prop
  | .lf v,x=>x=v/\ua v=true
  | .ls ts,x=>∃a xs,x=.ref a/\SqL K H a xs/\zaf K H ts xs
  | .tp ts,x=>∃a xs,x=.ref a/\SqT K H a xs/\zaf K H ts xs
def zaf(K:Fg)(H:Hp):List Tr->List V->Prop
  | [],xs=>xs=[]
  | t::ts,xs=>∃y ys,xs=y::ys/\TrAt K H t y/\zaf K H ts ys
end
mutual
def eqTr:Tr->Tr->Bool
  | .lf v,.lf w=>eqV v w
  | .ls ts,.ls us=>zgd ts us
  | .tp ts,.tp us=>zgd ts us
  | _,_=>false
def zgd:List Tr->List Tr->Bool
  | [],[]=>true
  | t::ts,u::us=>eqTr t u&&zgd ts us
  | _,_=>false
end
mutual
def deep:Tr->Nat
  | .lf _=>0
  | .ls ts=>bt ts+1
  | .tp ts=>bt ts+1
def bt:List Tr->Nat
  | []=>0
  | t::ts=>max (deep t) (bt ts)
end
section
variable{X:Cx}{pins:List (Addr×Obj)}{σ:St}{H:Hp}{s:Shared}
end
section
variable{X:Cx}
def SameK:Tr->Tr->Prop
  | .ls _,.ls _=>True
  | .tp _,.tp _=>True
  | _,_=>False
def rEqD(K:Fg)(n:Nat)(neg:Bool)(x y:V)(H:Hp)(Q:VK):Prop:=∃t t',SameK t t'/\TrAt K H t x/\TrAt K H t' y/\deep t<=n/\deep t'<=n/\Q (.bl (neg ^^ eqTr t t')) H
end
section
variable{X:Cx}{pins:List (Addr×Obj)}{σ:St}{H:Hp}{s:Shared}
open Classical in
end
section
variable{X:Cx}
def inTr(t:Tr)(ts:List Tr):Bool:=ts.any fun u=>eqTr u t
def rInD(K:Fg)(n:Nat)(neg:Bool):R2:=fun x y H Q=>∃p xs ts t,y=.ref p/\(SqL K H p xs\/SqT K H p xs)/\zaf K H ts xs/\TrAt K H t x/\deep t<=n/\bt ts<=n/\Q (.bl (neg ^^ inTr t ts)) H
end
theorem e_eqD{K:Fg}{n:Nat}{neg:Bool}{x y:V}{H:Hp}{Q:VK}:rEqD K n neg x y H Q=∃t t',SameK t t'/\TrAt K H t x/\TrAt K H t' y/\deep t<=n/\deep t'<=n/\Q (.bl (neg ^^ eqTr t t')) H:=rfl
theorem e_inD{K:Fg}{n:Nat}{neg:Bool}{x y:V}{H:Hp}{Q:VK}:rInD K n neg x y H Q=∃p xs ts t,y=.ref p/\(SqL K H p xs\/SqT K H p xs)/\zaf K H ts xs/\TrAt K H t x/\deep t<=n/\bt ts<=n/\Q (.bl (neg ^^ inTr t ts)) H:=rfl
end L2
namespace L2
open PySem PySem.Spec PyProof.Rows
def chr1(c:Nat):Str:=⟨#[c]⟩
def Itw(x:Str):It:=⟨fun i _=>i<x.cps.size,fun i H v H'=>H'=H/\∃c,x.cps[i]? = some c/\v=.str (chr1 c),fun i _=>x.cps.size<=i⟩
theorem zjn{P:Program}{w:World}{K:Fg}{tg:Expr}(it:Addr)(x:Str)(t:Tok):Turn P w K tg (Itw x) [it] it (fun i h=>h.IsStrIter it "str_ascii_iterator" x t i) where
  mem:=by simp
  obj:=fun i h st b hb=>by
    have e:b=it:=by simpa using hb
    subst e;obtain⟨o,e,c,d⟩:=st;exact⟨o,e,fun v z=>by rw[d]at z;cases z⟩
  keep:=fun i h h' st k=>by
    obtain⟨o,e,r⟩:=st;exact⟨o,k it (by simp) o e,r⟩
  item:=by
    intro X hP hw hK hc i pins s σ H E I hf st hg;subst hP hw hK;have hi:i<x.cps.size:=hg;obtain⟨f0,f1,f2,f3,f4,f5⟩:=hf it (by simp);refine wpAny_pyNext_ascii_item st (c:=x.cps[i]) (by simp[hi]) fun h' st' sb => ?_
    have I1:Inv X pins σ H { s with heap:=h',toks:=s.toks+1 }:=I.turned (t':=s.toks+1) (fun b o hb e=>(sb.2 b hb).trans e) f0 f1 f3 f4 f5;obtain⟨o,e,c,d⟩:=id st';exact⟨_,rfl,i4 (s:={ s with heap:=h',toks:=s.toks+1 }) e c d (by decide) ⟨.str (chr1 x.cps[i]),H,I1,⟨_,rfl⟩,⟨rfl,_,by simp[hi],rfl⟩,st',fun b hb=>(hf b hb).1⟩⟩
  done:=by
    intro X hP hw hK hc i pins s σ H E I hf st hg;subst hP hw hK;have hi:x.cps.size<=i:=hg;obtain⟨f0,f1,f2,f3,f4,f5⟩:=hf it (by simp);exact wpAny_pyNext_ascii_end (I.ok.hd hc) st (by simp[hi]) fun h' eb=>⟨rfl,I.turned (t':=s.toks) (fun b o hb e=>eb b o hb e) f0 f1 f3 f4 f5⟩
  self:=fun _ _ _ _ _ st h=>wpAny_pyIter_striter_ascii st h
theorem zht{P:Program}{w:World}{K:Fg}{tg:Expr}(it:Addr)(x:Str)(t:Tok):Turn P w K tg (Itw x) [it] it (fun i h=>h.IsStrIter it "str_iterator" x t i) where
  mem:=by simp
  obj:=fun i h st b hb=>by
    have e:b=it:=by simpa using hb
    subst e;obtain⟨o,e,c,d⟩:=st;exact⟨o,e,fun v z=>by rw[d]at z;cases z⟩
  keep:=fun i h h' st k=>by
    obtain⟨o,e,r⟩:=st;exact⟨o,k it (by simp) o e,r⟩
  item:=by
    intro X hP hw hK hc i pins s σ H E I hf st hg;subst hP hw hK;have hi:i<x.cps.size:=hg;obtain⟨f0,f1,f2,f3,f4,f5⟩:=hf it (by simp);refine wpAny_pyNext_wide_item st (c:=x.cps[i]) (by simp[hi]) fun h' st' sb => ?_
    have I1:Inv X pins σ H { s with heap:=h',toks:=s.toks+1 }:=I.turned (t':=s.toks+1) (fun b o hb e=>(sb.2 b hb).trans e) f0 f1 f3 f4 f5;obtain⟨o,e,c,d⟩:=id st';exact⟨_,rfl,i4 (s:={ s with heap:=h',toks:=s.toks+1 }) e c d (by decide) ⟨.str (chr1 x.cps[i]),H,I1,⟨_,rfl⟩,⟨rfl,_,by simp[hi],rfl⟩,st',fun b hb=>(hf b hb).1⟩⟩
  done:=by
    intro X hP hw hK hc i pins s σ H E I hf st hg;subst hP hw hK;have hi:x.cps.size<=i:=hg;obtain⟨f0,f1,f2,f3,f4,f5⟩:=hf it (by simp);exact wpAny_pyNext_wide_end (I.ok.hd hc) st (by simp[hi]) fun h' eb=>⟨rfl,I.turned (t':=s.toks) (fun b o hb e=>eb b o hb e) f0 f1 f3 f4 f5⟩
  self:=fun _ _ _ _ _ st h=>wpAny_pyIter_striter_wide st h
def iStr(a:TE):TI:=fun σ H R=>a σ H fun x H1=>∃z,x=.str z/\R (Itw z) H1
theorem pi_str{X:Cx}{tg l:Expr}{tl:TE}(hl:PE X l tl):PI X tg l (iStr tl):=by
  intro pins s σ H R I h;refine thn (hl pins s σ H _ I h) fun v s1 ⟨x,H1,I1,r1,q1⟩ => ?_
  obtain⟨z,e,q⟩:=q1;subst e;obtain⟨t,rfl⟩:=r1;refine wpAny_pyIter_strU ?_
  have fin:∀{tn:Nat->Heap->Prop},Turn X.prog X.w X.K tg (Itw z) [s1.heap.objs.size] s1.heap.objs.size tn->tn 0 (s1.heap.push { cls:=.type (strIterType z),data:=.fields #[.str z t,.int 0 0] }) ->
      PIE X pins σ tg R (.ref s1.heap.objs.size) { s1 with heap:=s1.heap.push { cls:=.type (strIterType z),data:=.fields #[.str z t,.int 0 0] } }:=fun {tn} T h0=>by
    refine⟨s1.heap.objs.size,[s1.heap.objs.size],_,_,H1,rfl,I1.kept (t':=s1.toks) fun b o e=>Heap.get?_push_of_some _ e,T,h0,fun b hb => ?_,q⟩;have e:b=s1.heap.objs.size:=by simpa using hb
    subst e;exact I1.fpOk (Zm _) (I1.hok.fresh (Zm _))
  cases ha:z.cps.all (· < 128) with
  | true =>
    have e:strIterType z = "str_ascii_iterator" := by simp[strIterType,ha]
    refine fin (zjn _ z t) ?_;exact⟨_,Heap.get?_push_size _ rfl,by rw[e],rfl⟩
  | false =>
    have e:strIterType z = "str_iterator" := by simp[strIterType,ha]
    refine fin (zht _ z t) ?_;exact⟨_,Heap.get?_push_size _ rfl,by rw[e],rfl⟩
theorem e_iStr{a:TE}{σ:St}{H:Hp}{R:It->Hp->Prop}:iStr a σ H R=a σ H fun x H1=>∃z,x=.str z/\R (Itw z) H1:=rfl
def wy(z:Str)(n:Nat):Str:=⟨(List.replicate n z.cps.toList).flatten.toArray⟩
theorem zh8:∀(n:Nat) (a acc:Array Nat),(List.replicate n a).foldl (· ++ ·) acc=acc++(List.replicate n a.toList).flatten.toArray:=by
  intro n
  induction n with
  | zero=>intro a acc;simp
  | succ n ih =>
    intro a acc;rw[Xc,YX,ih,Xc,List.flatten_cons]
    apply Array.ext'
    simp
theorem mul_is(z:Str)(n:Int):Txt.mul z n=wy z n.toNat:=by
  unfold Txt.mul wy
  by_cases h:n<1
  . rw[if_pos h,show n.toNat=0 by omega];rfl
  . rw[if_neg h]
    by_cases h2:(n==1||z.length==0)=true
    . rw[if_pos h2]
      rcases Bool.or_eq_true _ _▸h2 with q | q
      . have:n=1:=by simpa using q
        subst this
        show z=_
        have:(1:Int).toNat=1:=rfl;rw[this];simp
      . have e:z.cps.size=0:=by simpa[Str.length] using q
        have e2:z.cps = #[]:=Array.eq_empty_of_size_eq_zero e;obtain⟨c⟩:=z;simp only at e2;subst e2;simp
    . rw[if_neg h2,zh8]
      simp
section
variable{X:Cx}
def rMulS:R2:=fun x y H Q=>∃z n,x=.str z/\y=.int n /\ -(2^62)<=n/\n<2^31/\z.length*n.toNat<=2^20/\Q (.str (wy z n.toNat)) H
theorem zal:OpR X (binaryOp .Mult) rMulS:=by
  intro pins s σ H x y v u Q I rx ry h;obtain⟨z,n,rfl,rfl,h1,h2,h3,q⟩:=h;obtain⟨t,rfl⟩:=rx;obtain⟨t',rfl⟩:=ry;refine SB.mul ⟨?_,fun h4 h5 => ?_,fun h4 h5 => ?_⟩ fun tk k => ?_
  . rw[decide_eq_false (by omega),decide_eq_false (by omega)];rfl
  . intro h6
    have h7:(z.length:Int)*n<=2^20:=by
      have:((z.length*n.toNat:Nat):Int)<=((2^20:Nat):Int):=by exact_mod_cast h3
      rw[Int.natCast_mul,Yh (by omega)]at this;exact this
    have h8:(2^63-1:Int)/n*n<=z.length*n:=Int.mul_le_mul_of_nonneg_right (by omega) (by omega);have h9:=Int.emod_add_mul_ediv (2^63-1:Int) n;have h10:(2^63-1:Int) % n<n:=ZU _ (by omega);rw[Int.mul_comm]at h8;omega
  . have:z.length*n.toNat<=sizeLine:=Zd h3 (by decide)
    show decide (z.length*n.toNat > sizeLine)=false
    exact decide_eq_false (by omega)
  . rw[mul_is]
    exact⟨.str (wy z n.toNat),H,I.tok _,⟨_,rfl⟩,q⟩
theorem e_mulS{x y:V}{H:Hp}{Q:VK}:rMulS x y H Q=∃z n,x=.str z/\y=.int n /\ -(2^62)<=n/\n<2^31/\z.length*n.toNat<=2^20/\Q (.str (wy z n.toNat)) H:=rfl
end
theorem hu9{A:Around}{k:Nat}(hr:Room k A):A.units+1+8<=cLine:=by have:=hr.un;omega
theorem e_ixS{x y:V}{H:Hp}{Q:VK}:rIxS x y H Q=∃z i c,x=.str z/\y=.int i/\z.length<=sizeLine/\atI z.cps.toList i=some c/\Q (.str ⟨#[c]⟩) H:=rfl
theorem e_iT{K:Fg}{a:TE}{σ:St}{H:Hp}{R:It->Hp->Prop}:iTup K a σ H R=a σ H fun x H1=>∃p,x=.ref p/\(∃xs,SqT K H1 p xs)/\R (Itt K p) H1:=rfl
section
variable{X:Cx}
def rJoin(K:Fg):V->List V->Hp->VK->Prop:=fun x vs H Q=>∃sep b texts,x=.str sep/\vs=[.ref b]/\SqL K H b (texts.map V.str)/\JoinOk sep texts=true/\Q (.str (Txt.join sep texts)) H
theorem e_join{K:Fg}{x:V}{vs:List V}{H:Hp}{Q:VK}:rJoin K x vs H Q=∃sep b texts,x=.str sep/\vs=[.ref b]/\SqL K H b (texts.map V.str)/\JoinOk sep texts=true/\Q (.str (Txt.join sep texts)) H:=rfl
end
section
variable{σ:St}{k:Nat}{g:TG}{tt:TT}{te:TE}{H1:Hp}{Fin:List V->Hp->Prop}
theorem cx{K:Fg}{a:Addr}{xs:List V}(Pv:Nat->List V->Hp->Prop)(h0:Pv 0 [] H1)(hz:∀i ys H,i<=xs.length->Pv i ys H->ys.length<=sizeLine/\SqT K H a xs)
    (hs:∀i x ys H,xs[i]? = some x->Pv i ys H->g x (List.replicate k none++σ) H fun σ2 H2=>σ2.drop k=σ/\tt σ2 H2 fun b H3=>if b=true then te σ2 H3 fun v H4=>Pv (i+1) (ys++[v]) H4 else Pv (i+1) ys H3)
    (hd:∀ys H,Pv xs.length ys H->Fin ys H):sk (Itt K a) σ k g tt te H1 Fin:=by
  refine⟨fun i m ys H=>m=xs.length-i/\i<=xs.length/\Pv i ys H,⟨xs.length,by simp,ZE _,h0⟩,?_⟩
  rintro i m ys H ⟨rfl,hi,p⟩
  have q:=(hz i ys H hi p).2;refine⟨(hz i ys H hi p).1,?_⟩
  by_cases hlt:i<xs.length
  . refine .inr ⟨⟨xs,xs[i],q,by simp[hlt]⟩,Pv (i+1),fun ys' H' p'=>⟨xs.length-(i+1),by omega,rfl,hlt,p'⟩,fun x H' y => ?_⟩
    obtain⟨e,y⟩:=y;subst e;exact hs i x ys _ (y xs q) p
  . have e:i=xs.length:=by omega
    subst e;exact .inl ⟨⟨xs,q,Zm _⟩,hd ys H p⟩
end
theorem yd{e:Expr}{es:List Expr}{env:Env}(h:∀e' p,e≠.Starred e' p):starEach (e::es) env=(false,eval e env)::starEach es env:=by
  cases e <;> first | rfl | exact absurd rfl (h _ _)
def iSeq(K:Fg)(tl:TE):TI:=fun σ H R=>tl σ H fun x H1=>∃a,x=.ref a/\(((∃xs,SqL K H1 a xs)/\R (Itl K a) H1)\/((∃xs,SqT K H1 a xs)/\R (Itt K a) H1))
theorem e_iSeq{K:Fg}{tl:TE}{σ:St}{H:Hp}{R:It->Hp->Prop}:iSeq K tl σ H R=tl σ H fun x H1=>∃a,x=.ref a/\(((∃xs,SqL K H1 a xs)/\R (Itl K a) H1)\/((∃xs,SqT K H1 a xs)/\R (Itt K a) H1)):=rfl
section
variable{X:Cx}
def rTupL(K:Fg):List V->Hp->VK->Prop:=fun xs H Q=>∃p ys,xs=[.ref p]/\SqL K H p ys/\∀l,H l=none->Q (.ref l) (upd H l (.tup ys))
theorem oq:ve X (.type "tuple") (rTupL X.K):=fun pins s σ H xs us Q I r h=>by
  obtain⟨p,ys,e,hq,q⟩:=h;exact zbs pins s σ H xs us Q I r ⟨p,ys,e,.inl ⟨hq,q⟩⟩
theorem e_tupL{K:Fg}{xs:List V}{H:Hp}{Q:VK}:rTupL K xs H Q=∃p ys,xs=[.ref p]/\SqL K H p ys/\∀l,H l=none->Q (.ref l) (upd H l (.tup ys)):=rfl
end
end L2
namespace L2
open PySem PySem.Spec PyProof.Rows
section
variable{X:Cx}
def rMinL(K:Fg)(xs:List V)(H:Hp)(Q:VK):Prop:=∃(p:Addr) (ns:List Int),xs=[.ref p]/\SqL K H p (ns.map V.int)/\0<ns.length/\∀m,m∈ns->(∀a∈ns,m<=a)->Q (.int m) H
def rMaxL(K:Fg)(xs:List V)(H:Hp)(Q:VK):Prop:=∃(p:Addr) (ns:List Int),xs=[.ref p]/\SqL K H p (ns.map V.int)/\0<ns.length/\∀m,m∈ns->(∀a∈ns,a<=m)->Q (.int m) H
theorem e_minL{K:Fg}{xs:List V}{H:Hp}{Q:VK}:rMinL K xs H Q=∃(p:Addr) (ns:List Int),xs=[.ref p]/\SqL K H p (ns.map V.int)/\0<ns.length/\∀m,m∈ns->(∀a∈ns,m<=a)->Q (.int m) H:=rfl
theorem e_maxL{K:Fg}{xs:List V}{H:Hp}{Q:VK}:rMaxL K xs H Q=∃(p:Addr) (ns:List Int),xs=[.ref p]/\SqL K H p (ns.map V.int)/\0<ns.length/\∀m,m∈ns->(∀a∈ns,a<=m)->Q (.int m) H:=rfl
theorem zhg(hc:X.calm=true):ve X (.builtin "min") (rMinL X.K):=by
  intro pins s σ H xs us Q I r h;obtain⟨p,ns,rfl,hq,hne,q⟩:=h;obtain⟨u,rfl,rx⟩:=Vals.one r;cases rx;obtain⟨its,rv,pl,hz⟩:=I.list hq;have hi:IntsAre its ns:=ak rv;obtain⟨zs,hx⟩:=hi.allInts.items;have hl':s.heap.IsList p (intItems zs):=hx▸pl.isList
  have hns:ns=zs.toList.map (·.1):=by
    rw[<-nums_intItems,<-hx];exact(show numsOf its.toArray.toList=ns from hi.numsOf).symm
  have hsz:0<zs.size:=by
    have h3:=hne;rw[hns,Za,ZS]at h3;exact h3
  refine min_intList (I.ok.hd hc) hl' hsz fun v h' tk hv hk => ?_
  obtain⟨t,rfl⟩:=intItems_at hv;obtain⟨h1,h2⟩:=argBest_lt (numAt zs) (zs.size-1);refine⟨V.int _,H,I.kept hk,⟨_,rfl⟩,q _ ?_ fun a ha => ?_⟩
  . rw[hns,numAt_eq];exact getD_mem (by rw[Za,ZS];omega)
  . rw[hns]at ha
    obtain⟨j,hj,rfl⟩:=mem_getD ha;rw[Za,ZS]at hj;rw[<-numAt_eq];exact h2 j (by omega)
theorem zio(hc:X.calm=true):ve X (.builtin "max") (rMaxL X.K):=by
  intro pins s σ H xs us Q I r h;obtain⟨p,ns,rfl,hq,hne,q⟩:=h;obtain⟨u,rfl,rx⟩:=Vals.one r;cases rx;obtain⟨its,rv,pl,hz⟩:=I.list hq;have hi:IntsAre its ns:=ak rv;obtain⟨zs,hx⟩:=hi.allInts.items;have hl':s.heap.IsList p (intItems zs):=hx▸pl.isList
  have hns:ns=zs.toList.map (·.1):=by
    rw[<-nums_intItems,<-hx];exact(show numsOf its.toArray.toList=ns from hi.numsOf).symm
  have hsz:0<zs.size:=by
    have h3:=hne;rw[hns,Za,ZS]at h3;exact h3
  refine max_intList (I.ok.hd hc) hl' hsz fun v h' tk hv hk => ?_
  obtain⟨t,rfl⟩:=intItems_at hv;obtain⟨h1,h2⟩:=argBest_gt (numAt zs) (zs.size-1);refine⟨V.int _,H,I.kept hk,⟨_,rfl⟩,q _ ?_ fun a ha => ?_⟩
  . rw[hns,numAt_eq];exact getD_mem (by rw[Za,ZS];omega)
  . rw[hns]at ha
    obtain⟨j,hj,rfl⟩:=mem_getD ha;rw[Za,ZS]at hj;rw[<-numAt_eq];exact h2 j (by omega)
end
end L2
namespace L2
open PySem PySem.Spec PyProof.Rows
section
variable{prog:Program}{w:World}{A:Around}{E:Value->Shared->Prop}{s:Shared}
end
section
variable{X:Cx}
end
end L2
namespace L2
open PySem PySem.Spec PyProof.Rows
def seen(val:Nat->Str):Nat->List Str
  | 0=>[]
  | i+1=>if val i∈seen val i then seen val i else seen val i++[val i]
theorem zdk(val:Nat->Str):∀i,(seen val i).length<=i
  | 0=>Zm _
  | i+1=>by
    have:=zdk val i;unfold seen
    split
    . omega
    . rw[Zo,YT];omega
theorem zkw(val:Nat->Str)(i:Nat)(k:Str):(decide (k∈seen val i)||decide (k=val i))=decide (k∈seen val (i+1)):=by
  conv=>rhs;unfold seen
  split
  . rename_i h
    by_cases e:k=val i
    . subst e;simp[h]
    . simp[e]
  . simp
theorem zha(val:Nat->Str)(i:Nat):(if decide (val i∈seen val i)=true then(seen val i).length else(seen val i).length+1)=(seen val (i+1)).length:=by
  conv=>rhs;unfold seen
  by_cases h:val i∈seen val i
  . simp[h]
  . simp[h]
section
variable{prog:Program}{w:World}{A:Around}{R:Result->Shared->Prop}{I:Addr}{fp wr:List Addr}{G:Array GenState->Array GenState->Prop}{n:Nat}{P:Nat->Value->Prop}{St:Nat->Shared->Prop}
theorem zc8(W:WalksS prog w A.in1 I fp wr G n P St)(T:Addr)(hT:T∉fp)(val:Nat->Str)(hval:∀i v,P i v->∃t,v=.str (val i) t)(hb:n+1<scanBound) :
    ∀(k i:Nat) (s:Shared),n-i=k->i<=n->St i s->s.heap.SetOf (PySem.strKind prog w) T (fun k'=>decide (k'∈seen val i)) (seen val i).length ->
      (∀s',Moved (T::wr) G s s'->s'.heap.SetOf (PySem.strKind prog w) T (fun k'=>decide (k'∈seen val n)) (seen val n).length->R (.ok (.ret .none)) s') ->
      codeAny (model prog w) A (.builtin "set.update.loop" ⟨[.ref T,.ref I],[]⟩) R s:=by
  have hTw:T∉wr:=fun h=>hT (W.sub _ h)
  have sub:∀b∈wr,b∈T::wr:=fun b h=>Zv _ h
  intro k
  induction k with
  | zero =>
    intro i s hk hi hst hS hR;obtain rfl:i=n:=by omega
    refine codeAny_builtin PyProof.Rows.F.entry_set_update_loop ?_;rw[Around.under_plainId PyProof.Rows.F.plain_set_update_loop _]
    show wpAny _ A.in1 (pyNext (.ref I) >>= _) _ _ s
    refine wpAny_bind (W.done s _ _ hst fun s' hm => ?_);refine wpAny_pure (hR s' (hm.mono sub) ?_);obtain⟨o,es,ep,t,ho,r⟩:=hS;exact⟨o,es,ep,t,hm.heap T _ hTw ho,r⟩
  | succ k ih =>
    intro i s hk hi hst hS hR;have hlt:i<n:=by omega
    refine codeAny_builtin PyProof.Rows.F.entry_set_update_loop ?_;rw[Around.under_plainId PyProof.Rows.F.plain_set_update_loop _]
    show wpAny _ A.in1 (pyNext (.ref I) >>= _) _ _ s
    refine wpAny_bind (W.item i s _ _ hlt hst fun v s' hP hst' hm => ?_);obtain⟨t,rfl⟩:=hval i v hP
    have hS':s'.heap.SetOf (PySem.strKind prog w) T (fun k'=>decide (k'∈seen val i)) (seen val i).length:=by
      obtain⟨o,es,ep,tb,ho,r⟩:=hS;exact⟨o,es,ep,tb,hm.heap T _ hTw ho,r⟩
    show wpAny _ A.in1 (holding [Value.str (val i) t] (setAdd T (.str (val i) t)) >>= _) _ _ s'
    refine wpAny_bind (wpAny_holding ?_);unfold setAdd;refine wpAny_holding (wpAny_bind ((PySem.strKind prog w).pyHash (k:=val i) (strKind_is _ _ _ _) ?_));have room:(seen val i).length+1<scanBound:=by have:=zdk val i;omega
    refine wpAny_setAddHashed_of (knd:=PySem.strKind prog w) (s:={ s' with toks:=s'.toks+1 }) (strKind_is _ _ _ _) rfl hS' room fun h' hsb hS2 => ?_
    have hSi:h'.SetOf (PySem.strKind prog w) T (fun k'=>decide (k'∈seen val (i+1))) (seen val (i+1)).length:=by
      have e1:=zha val i;have e2:(fun k'=>decide (k'∈seen val (i+1)))=fun k'=>(decide (k'∈seen val i)||decide (k'=val i)):=funext fun k'=>(zkw val i k').symm
      rw[<-e1,e2];exact hS2
    refine wpAny_pure ⟨plainId_quiet PyProof.Rows.F.plain_set_update_loop _,ih (i+1) _ (by omega) hlt (W.frame _ s' _ _ hst' (YC _) fun b hb o e => ?_) hSi fun s2 hm2 hS2' => ?_⟩
    . rw[hsb.2 b (fun z:b=T=>hT (z▸hb))];exact e
    . refine hR s2 (Moved.trans W.gtrans ((hm.mono sub).then_heap (YC _) fun b o hb e => ?_) hm2) hS2'
      rw[hsb.2 b (fun z:b=T=>hb (z▸ZA))];exact e
end
abbrev setO(led:Bool):Obj:={ cls:=.type "set", dict:=none,data:=.set #[] 0 (.fresh 0 0 led) }
section
variable{prog:Program}{w:World}{A:Around}{E:Value->Shared->Prop}{s:Shared}
def ze2(prog:Program)(w:World)(s:Shared)(val:Nat->Str)(n:Nat)(h':Heap):Prop :=
  h'.SetOf (PySem.strKind prog w) s.heap.objs.size (fun k'=>decide (k'∈seen val n)) (seen val n).length/\∀b o,b<s.heap.objs.size->s.heap.get? b=some o->h'.get? b=some o
set_option maxHeartbeats 3200000 in
theorem zbx{l:Addr}{items:Array Value}{val:Nat->Str}{Q:Value->Shared->Prop}(hh:A.handled=none)(hl:s.heap.IsList l items)(hv:∀(i:Nat) v,items[i]? = some v->∃t,v=.str (val i) t)(hb:items.size+1<scanBound)
    (h:∀(h':Heap) (tk:Nat),ze2 prog w s val items.size h'->Q (.ref s.heap.objs.size) { s with heap:=h',toks:=tk }):wpAny (model prog w) A (call (.type "set") [.ref l]) Q E s:=by
  obtain⟨c,tl,hmro⟩:=F.called_set.mro;have hmade:=F.called_set.made;have hsub:=F.called_set.sub;refine wpAny_call (codeAny_of_tree ?_)
  show wpAny _ _ (callAny (.type "set") _) _ _ _
  refine wpAny_pure ⟨Code.quiet_builtin _ (by decide +kernel),codeAny_builtin F.entry_type_call ?_⟩;rw[Around.under_plain (weight_type_call_type "set" [.ref l] []) rfl];have h1:=F.called_set.notType;have h2:=F.called_set.canCreate;have hct:=F.typeCall_set_1 (.ref l)
  repeat (any_goals (first | assumption | wp_step))
  refine codeAny_mono (code_set_new_1 (.ref l) (E:=E) (Q₁:=fun obj s₁=>∃led:Bool,obj=.ref s.heap.objs.size/\s₁={ s with heap:=s.heap.push (setO led) }) fun led=>⟨led,rfl,rfl⟩) fun r s₁ hr => ?_
  match r,hr with
  | .error e,hr=>exact hr
  | .ok .next,hr=>exact hr.elim
  | .ok .brk,hr=>exact hr.elim
  | .ok .cont,hr=>exact hr.elim
  | .ok (.ret obj),hr =>
    obtain⟨led,rfl,rfl⟩:=hr;have hS:(s.heap.push (setO led)).get? s.heap.objs.size=some (setO led):=Heap.get?_push_size _ rfl;have hT:Shared.TypeIs { s with heap:=s.heap.push (setO led) } (.ref s.heap.objs.size) "set" := ⟨_,hS,rfl⟩;have hli:=F.called_set.init.lookup;have hbi:=F.called_set.init.bind (.ref s.heap.objs.size)
    repeat (any_goals (first | assumption | wp_step))
    refine codeAny_mono (codeAny_call_builtin (R:=wants (fun r s₂=>r=.none/\∃h' tk,s₂={ s with heap:=h',toks:=tk }/\ze2 prog w s val items.size h') E) F.called_set.init.plain F.entry_set_init (check_set_init_1 hT ?_)) fun r₂ s₂ hr₂ => ?_
    . obtain⟨ol,hol,hcl,nl,hdl⟩:=id hl
      have hl1:(s.heap.push (setO led)).IsList l items:=hl.push _;obtain⟨ocls,odict,odata,oslots⟩:=ol;simp only at hcl hdl;subst hcl;subst hdl;have hol':(s.heap.push (setO led)).get? l=some { cls:=.type "list", dict:=odict,data:=.seq items nl,slots:=oslots }:=Heap.get?_push_of_some _ hol;have hsls:=F.sub_list_set;have hslf:=F.sub_list_frozenset;have hne:(Value.type "list" == Value.type "dict")=false:=by decide
      unfold Builtin.«set.__init__» noKeywords Builtin.Frozenset.updateFrom;generalize hPI:pyIter=PI
      wp_walk
      subst hPI;refine wpAny_pyIter_list hl1 ?_;refine wpAny_bind (wpAny_runValue ?_);have hlS:l<s.heap.objs.size:=Heap.lt_size hol;have hsz:(s.heap.push (setO led)).objs.size=s.heap.objs.size+1:=size_push' ..;have hneI:l≠(s.heap.push (setO led)).objs.size:=by rw[hsz];exact Zs (Yv hlS)
      have hSf:s.heap.objs.size∉[(s.heap.push (setO led)).objs.size,l]:=by
        rw[hsz];simp only[ZK,Zx,or_false,not_or];exact⟨Zs (Yz _),Ym hlS⟩
      refine zc8 ((Walks.list (by simp[hh]) _ l hneI items).toS) s.heap.objs.size hSf val hv hb (items.size-0) 0 _ (by omega) (ZE _) ⟨⟨_,Heap.get?_push_size _ rfl,rfl,rfl⟩,hl1.push _⟩ ?_ ?_
      . have hget:((s.heap.push (setO led)).push { cls:=.type "list_iterator", data:=.fields #[.ref l,.int 0 0] }).get? s.heap.objs.size=some (setO led):=Heap.get?_push_of_some _ hS
        exact(PyProof.Rows.setObjOf_fresh (knd:=PySem.strKind prog w) led).setOf hget (by unfold scanBound;omega)
      . intro s' hm hS'
        rw[Moved.eq_with hm];refine wpAny_pure ?_;refine wpAny_pure ⟨rfl,s'.heap,s'.toks,rfl,hS',fun b o hb e=>hm.heap b o ?_ (Heap.get?_push_of_some _ (Heap.get?_push_of_some _ e))⟩;rw[hsz];simp only[ZK,Zx,or_false,not_or];exact⟨Zs hb,Zs (Yv hb)⟩
    . match r₂,hr₂ with
      | .error e,hr₂=>exact hr₂
      | .ok .next,hr₂=>exact hr₂.elim
      | .ok .brk,hr₂=>exact hr₂.elim
      | .ok .cont,hr₂=>exact hr₂.elim
      | .ok (.ret r),hr₂ =>
        obtain⟨rfl,h',tk,rfl,hd⟩:=hr₂
        repeat (any_goals (first | assumption | wp_step))
        exact h _ _ hd
end
end L2
namespace L2
open PySem PySem.Spec PyProof.Rows
theorem zj8{zs:List Str}{us:List Value}(r:Vals (zs.map V.str) us)(i:Nat)(v:Value)(h:us[i]? = some v):∃t,v=.str (zs.getD i ⟨#[]⟩) t:=by
  have hl:=r.length;rw[Za]at hl;have hi:i<zs.length:=by rw[hl];exact(Zc.mp h).1
  obtain⟨u,hu,ru⟩:=r.get (i:=i) (x:=V.str zs[i]) (by simp[hi]);rw[h]at hu;cases hu;obtain⟨t,rfl⟩:=ru;exact⟨t,by simp[Zk,hi]⟩
section
variable{X:Cx}
def zfd(K:Fg)(t:TA):TE:=fun σ H Q=>t σ H fun vs H1=>∃(p:Addr) (zs:List Str),vs=[.ref p]/\SqL K H1 p (zs.map V.str)/\zs.length<=1000/\Q (.int (seen (fun i=>zs.getD i ⟨#[]⟩) zs.length).length) H1
theorem zk0{K:Fg}{t:TA}{σ:St}{H:Hp}{Q:VK}:zfd K t σ H Q=t σ H fun vs H1=>∃(p:Addr) (zs:List Str),vs=[.ref p]/\SqL K H1 p (zs.map V.str)/\zs.length<=1000/\Q (.int (seen (fun i=>zs.getD i ⟨#[]⟩) zs.length).length) H1:=rfl
theorem zij {e:Expr} {t:TA} {p1 p2 q1 q2:Pos} (hc:X.calm=true) (hgL:Gl X "len") (hmL:X.mg "len" = none) (hgR:Gl X "set") (hmR:X.mg "set" = none) (ha:PA X [e] t)
    (he:starEach [e] X.env=(false,eval e X.env)::starEach [] X.env:=by rfl) (he2:starEach [.Call (.Name "set" p2) [e] [] q2] X.env=(false,eval (.Call (.Name "set" p2) [e] [] q2) X.env)::starEach [] X.env:=by rfl) :
    PE X (.Call (.Name "len" p1) [.Call (.Name "set" p2) [e] [] q2] [] q1) (zfd X.K t):=by
  intro pins s σ H Q I h;refine wpAny_Call_Name_kw (ud I hgL hmL yc ?_);refine PyProof.Rows.callWith_builtin1 ?_ he2 rfl;rw[he2]
  show wpAny _ _ (spliced ((false,eval (.Call (.Name "set" p2) [e] [] q2) X.env)::backTo q1 (starEach [] X.env))) _ _ s
  refine Calls.spliced_cons ?_;refine wpAny_Call_Name_kw (ud I hgR hmR bt_set ?_);refine PyProof.Rows.callWith_type1 (thn (ha q2 pins s σ H _ I h) fun us s1 ⟨vs,H1,I1,r1,q⟩ => ?_) he rfl;obtain⟨p,zs,rfl,hq,hz,q⟩:=q;obtain⟨u,rfl,rx⟩:=Vals.one r1;cases rx;obtain⟨its,rv,pl,_⟩:=I1.list hq;have hlen:its.length=zs.length:=by have:=rv.length;rw[Za]at this;exact this.symm
  refine zbx (val:=fun i=>zs.getD i ⟨#[]⟩) (I1.ok.hd hc) pl.isList (fun i v hv=>zj8 rv i v (by simpa using hv)) (by rw[Zr,hlen];exact Yk (YA hz) (by decide)) fun h' tk hd => ?_
  refine Calls.spliced_nil ?_;obtain⟨hS,kp⟩:=hd;rw[show its.toArray.size=zs.length by rw[Zr,hlen]]at hS;have I2:Inv X pins σ H1 { s1 with heap:=h',toks:=tk }:=I1.kept fun b o e=>kp b o (Heap.lt_size e) e
  obtain⟨o,es,ep,t,ho,ex,hd,_,_,hz2,hf,hn⟩:=hS;have h3:((es.size:Nat):Int)<2^63:=by unfold scanBound at hz2;omega
  refine call_len_set ho ex hd hf h3 ⟨.int es.size,H1,I2.tok _,⟨_,rfl⟩,?_⟩;rw[hn];exact q
def rLeS(x y:V)(H:Hp)(Q:VK):Prop:=∃i j,x=.str i/\y=.str j/\Q (.bl (!decide (j.cps.toList<i.cps.toList))) H
theorem e_leS{x y:V}{H:Hp}{Q:VK}:rLeS x y H Q=∃i j,x=.str i/\y=.str j/\Q (.bl (!decide (j.cps.toList<i.cps.toList))) H:=rfl
theorem ziu:OpR X (compareOp .LtE) rLeS:=by
  intro pins s σ H x y v u Q I rx ry h;obtain⟨i,j,rfl,rfl,q⟩:=h;obtain⟨t,rfl⟩:=rx;obtain⟨t',rfl⟩:=ry;exact PySem.P.le_str (yj I q rfl)
end
section
variable{σ:St}{k:Nat}{g:TG}{tt:TT}{te:TE}{H1:Hp}{Fin:List V->Hp->Prop}
theorem zk2{z:Str}(Pv:Nat->List V->Hp->Prop)(h0:Pv 0 [] H1)(hz:∀i ys H,i<=z.cps.size->Pv i ys H->ys.length<=sizeLine)
    (hs:∀i c ys H,z.cps[i]? = some c->Pv i ys H->g (.str (chr1 c)) (List.replicate k none++σ) H fun σ2 H2=>σ2.drop k=σ/\tt σ2 H2 fun b H3=>if b=true then te σ2 H3 fun v H4=>Pv (i+1) (ys++[v]) H4 else Pv (i+1) ys H3)
    (hd:∀ys H,Pv z.cps.size ys H->Fin ys H):sk (Itw z) σ k g tt te H1 Fin:=by
  refine⟨fun i m ys H=>m=z.cps.size-i/\i<=z.cps.size/\Pv i ys H,⟨z.cps.size,by simp,ZE _,h0⟩,?_⟩
  rintro i m ys H ⟨rfl,hi,p⟩
  refine⟨hz i ys H hi p,?_⟩
  by_cases hlt:i<z.cps.size
  . refine .inr ⟨hlt,Pv (i+1),fun ys' H' p'=>⟨z.cps.size-(i+1),by omega,rfl,hlt,p'⟩,fun x H' y => ?_⟩
    obtain⟨e,c,e2,y⟩:=y;subst e y;exact hs i c ys _ e2 p
  . have e:i=z.cps.size:=by omega
    subst e;exact .inl ⟨Zm _,hd ys H p⟩
end
def intE:Expr->Option Int
  | .Constant (.int i) _ _=>some i
  | _=>none
def zb4:List Expr->Option (List Int)
  | []=>some []
  | e::es=>(intE e).bind fun i=>(zb4 es).map fun is=>i::is
def dg:List Int->List V
  | []=>[]
  | i::is=>.int i::dg is
theorem e_vI0:dg []=[]:=rfl
theorem e_vI{i:Int}{is:List Int}:dg (i::is)=.int i::dg is:=rfl
def tInts(ns:List Int):TA:=fun _ H Q=>Q (dg ns) H
theorem e_ints{ns:List Int}{σ:St}{H:Hp}{Q:List V->Hp->Prop}:tInts ns σ H Q=Q (dg ns) H:=rfl
theorem ze0{X:Cx}:∀{es:List Expr} {ns:List Int},zb4 es=some ns->PA X es (tInts ns)
  | [],ns,h=>by
    cases h;exact zb
  | e::es,ns,h=>by
    unfold zb4 at h
    cases e with
    | Constant c j p =>
      cases c with
      | int i =>
        cases e2:zb4 es with
        | none=>rw[e2]at h;cases h
        | some is =>
          rw[e2]at h;cases h;exact za zg (ze0 e2)
      | _=>cases h
    | _=>cases h
end L2
namespace L2
open PySem PySem.Spec PyProof.Rows
section
variable{X:Cx}
def rIsB(x y:V)(H:Hp)(Q:VK):Prop:=∃b c,x=.bl b/\y=.bl c/\Q (.bl (b==c)) H
theorem e_isB{x y:V}{H:Hp}{Q:VK}:rIsB x y H Q=∃b c,x=.bl b/\y=.bl c/\Q (.bl (b==c)) H:=rfl
end
end L2
namespace L2
open PySem PySem.Spec PyProof.Rows
theorem zez{α:Type}{l:List α}{k:Nat}{x:α}(h:l[k]? = some x):l.drop k=x::l.drop (k+1):=by
  obtain⟨hk,e⟩:=Zc.mp h;rw[List.drop_eq_getElem_cons hk,e]
theorem sf{X:Cx}{body:List Stmt}{k:Nat}{st:Stmt}{t ts:TS}(hs:PS X st t)(h:body[k]? = some st)(hr:PSs X (body.drop (k+1)) ts):PSs X (body.drop k) (tSeq t ts):=by
  rw[zez h];exact zj hs hr
theorem zl9{X:Cx}{body:List Stmt}{k:Nat}{st:Stmt}{t:TS}(hs:PS X st t)(h:body[k]? = some st)(hl:body[k+1]? = none):PSs X (body.drop k) t:=by
  rw[zez h,List.drop_eq_nil_of_le (List.getElem?_eq_none_iff.mp hl)];exact zh hs
theorem zmk{X:Cx}{body:List Stmt}{t:TS}(h:PSs X (body.drop 0) t):PSs X body t:=h
end L2
namespace L2
open PySem PySem.Spec PyProof.Rows
section
variable{prog:Program}{w:World}{A:Around}{E:Value->Shared->Prop}{s:Shared}
theorem zkv{t b:Addr}{vs ws:List Value}{Q:Value->Shared->Prop}(ht:IsTup s.heap t vs.toArray)(hb:IsTup s.heap b ws.toArray)(hv:vs=[])(h0:Q (.ref b) s) :
    wpAny (model prog w) A (binaryOp .Add (.ref t) (.ref b)) Q E s:=by
  obtain⟨⟨cls,dd,data,sl⟩,ho,hc,n,hd⟩:=id ht;obtain⟨⟨cls2,dd2,data2,sl2⟩,ho2,hc2,n2,hd2⟩:=id hb;simp only at hc hd hc2 hd2;subst hc hd hc2 hd2
  exact concat_meets ⟨_,ho,rfl⟩ ⟨_,ho2,rfl⟩ noFill_tuple_add seq_tuple_add PySem.F.slot_tuple_add PySem.F.entry_tuple_add (PySem.F.args_tuple_add_2 _ _)
    (tuple_addW0 t b vs.toArray ws.toArray n n2 dd dd2 sl sl2 (by simp[hv])) ⟨ho,ho2,h0⟩
end
theorem zcp{H:Hp}{a:Addr}{o:HO}(n:H a=none):Same H (upd H a o):=fun b u e=>by
  rw[zp (fun z=>by rw[z,n]at e;cases e)];exact e
section
variable{X:Cx}
def rCatH:R2:=fun x y H Q=>∃a b xs ys,x=.ref a/\y=.ref b/\H a=some (.tup xs)/\H b=some (.tup ys)/\xs.length+ys.length<=sizeLine/\∀H' p,Same H H'->H' p=some (.tup (xs++ys))->Q (.ref p) H'
theorem e_catH{x y:V}{H:Hp}{Q:VK}:rCatH x y H Q=∃a b xs ys,x=.ref a/\y=.ref b/\H a=some (.tup xs)/\H b=some (.tup ys)/\xs.length+ys.length<=sizeLine/\∀H' p,Same H H'->H' p=some (.tup (xs++ys))->Q (.ref p) H':=rfl
theorem m7:OpR X (binaryOp .Add) rCatH:=by
  intro pins s σ H x y v u Q I rx ry h;obtain⟨a,b,xs,ys,rfl,rfl,ha,hb,hz,q⟩:=h
  by_cases e1:xs=[]
  . subst e1
    cases rx;cases ry;obtain⟨its,r1,p1,_⟩:=I.tuple (SqT.of ha);obtain⟨its2,r2,p2,_⟩:=I.tuple (SqT.of hb);exact zkv p1 p2 (r1.nil_iff.mpr rfl) ⟨.ref b,H,I,rfl,q H b (Same.refl _) hb⟩
  . refine zlb pins s σ H (.ref a) (.ref b) v u Q I rx ry ⟨a,b,xs,ys,rfl,rfl,.of ha,.of hb,e1,hz,fun e2 => ?_,fun e2 p hp => ?_⟩
    . subst e2
      exact q H a (Same.refl _) (by rw[ha,Ye])
    . exact q _ p (zcp hp) zd
theorem zjz{x:V}{vs:List V}{H:Hp}{Q:VK}:zfk x vs H Q=∃l b xs zs,x=.ref l/\vs=[.ref b]/\H l=some (.lst xs)/\H b=some (.lst zs)/\xs.length+zs.length<=sizeLine/\Q .non (upd H l (.lst (xs++zs))):=rfl
end
section
open HT
variable{prog:Program}{w:World}{A:Around}{E:Value->Shared->Prop}{s:Shared}
theorem dv{t sl:Addr}{items:Array Value}{vl vu:Value}{lo hi:Option Int}{Q:Value->Shared->Prop}(ht:IsTup s.heap t items)(hs:s.heap.IsSliceOf sl vl vu .none)(pl:IsPart vl lo)(pu:IsPart vu hi)
    (hw:sIx items.size 0 lo=0/\sIx items.size items.size hi=items.size) (h:Q (.ref t) s):wpAny (model prog w) A (getItem (.ref t) (.ref sl)) Q E s:=by
  obtain⟨os,hos,hcs,hds⟩:=id hs;have hTs:s.TypeIs (.ref sl) "slice" := ⟨os,hos,hcs⟩;unfold getItem
  try with_reducible refine wpAny_holding ?_
  first | refine wpAny_bind (wpAny_pure ?_) | skip
  refine wpAny_bind (wpAny_sequenceKey ht.typeIs (by decide) ?_)
  refine wpAny_bind (wpAny_callSpecial?_slot (name:=Str.ofString "__getitem__") ht.typeIs PyProof.Rows.slot_tuple_getitem
    (wpAny_call_entry PyProof.Rows.slot_tuple_getitem ht.typeIs entry_tuple_getitem ?_ (args_tuple_getitem _ _)))
  show wpAny _ _ (Builtin.Tuple.tupleItemsOf (.ref t) >>= _) _ _ s
  refine wpAny_bind (tupleItemsOf_ ht ?_);refine wpAny_bind (wpAny_typeOf hTs ?_);rw[if_pos (by decide)];refine wpAny_bind (ky hs pl pu ?_)
  have hyes:(((sIx items.size 0 lo:Nat):Int)==0&&(1:Int)==1&&(sIx items.size items.size hi-sIx items.size 0 lo)==items.size)=true:=by
    rw[hw.1,hw.2];simp
  show wpAny _ _ (if (((sIx items.size 0 lo:Nat):Int)==0&&(1:Int)==1&&(sIx items.size items.size hi-sIx items.size 0 lo)==items.size)=true then _ else _) _ _ s
  rw[if_pos hyes];unfold Builtin.Tuple.tupleIsExact;refine wpAny_bind (wpAny_bind (wpAny_typeOf ht.typeIs (wpAny_pure ?_)));rw[if_pos (by decide)];exact wpAny_bind (wpAny_rule (wpAny_pure ⟨_,rfl,wpAny_pure h⟩))
end
section
variable{X:Cx}
def rSlH:V->Option Int->Option Int->Hp->VK->Prop:=fun x lo hi H Q=>∃a xs,x=.ref a/\H a=some (.tup xs)/\∀H' p,Same H H'->H' p=some (.tup (cutV xs lo hi))->Q (.ref p) H'
theorem e_slH{x:V}{lo hi:Option Int}{H:Hp}{Q:VK}:rSlH x lo hi H Q=∃a xs,x=.ref a/\H a=some (.tup xs)/\∀H' p,Same H H'->H' p=some (.tup (cutV xs lo hi))->Q (.ref p) H':=rfl
theorem de:SlR X rSlH:=by
  intro pins s σ H x v vl vu lo hi sl Q I rx hs pl pu h;obtain⟨a,xs,rfl,hx,q⟩:=h
  by_cases hw:HT.sIx xs.length 0 lo=0/\HT.sIx xs.length xs.length hi=xs.length
  . cases rx
    obtain⟨its,r,ht,hz⟩:=I.tuple (SqT.of hx);have hlen:its.toArray.size=xs.length:=by rw[Zr];exact r.length.symm
    refine⟨"tuple", _,PyProof.Rows.slot_tuple_getitem.lookup,ht.typeIs,?_⟩;refine dv ht hs pl pu (by rw[hlen];exact hw) ⟨.ref a,H,I,rfl,q H a (Same.refl _) ?_⟩;rw[hx];unfold cutV;rw[hw.1,hw.2];simp
  . exact zcx pins s σ H _ v vl vu lo hi sl Q I rx hs pl pu ⟨a,xs,rfl,.of hx,hw,fun p hp=>q _ p (zcp hp) zd⟩
theorem e_slT{K:Fg}{x:V}{lo hi:Option Int}{H:Hp}{Q:VK}:rSlT K x lo hi H Q=∃a xs,x=.ref a/\SqT K H a xs/\¬(HT.sIx xs.length 0 lo=0/\HT.sIx xs.length xs.length hi=xs.length)/\∀p,H p=none->Q (.ref p) (upd H p (.tup (cutV xs lo hi))):=rfl
theorem dm{xs:List V}{k:Nat}(h:k<=xs.length):cutV xs none (some (k:Int))=xs.take k:=by
  unfold cutV;rw[HT.sIx_none,HT.sIx_nat];simp[YY h]
theorem jn{xs:List V}{k:Nat}(h:k<=xs.length):cutV xs (some (k:Int)) none=xs.drop k:=by
  unfold cutV;rw[HT.sIx_none,HT.sIx_nat,YY h];exact ZG (by rw[Yc];omega)
end
end L2
namespace L2
open PySem PySem.Spec PyProof.Rows
section
variable{σ:St}{k:Nat}{g:TG}{tt:TT}{te:TE}{H1:Hp}{Fin:List V->Hp->Prop}
theorem zja{K:Fg}{a:Addr}{xs:List V}(Pv:Nat->List V->Hp->Prop)(h0:Pv 0 [] H1)(hz:∀i ys H,i<=xs.length->Pv i ys H->ys.length<=sizeLine/\SqL K H a xs)
    (hs:∀i x ys H T,xs[i]? = some x->H T=none->Pv i ys H->g (.ref T) (List.replicate k none++σ) (upd H T (.tup [.int i,x])) fun σ2 H2=>σ2.drop k=σ/\tt σ2 H2 fun b H3=>if b=true then te σ2 H3 fun v H4=>Pv (i+1) (ys++[v]) H4 else Pv (i+1) ys H3)
    (hd:∀ys H,Pv xs.length ys H->Fin ys H):sk (Ite K a) σ k g tt te H1 Fin:=by
  refine⟨fun i m ys H=>m=xs.length-i/\i<=xs.length/\Pv i ys H,⟨xs.length,by simp,ZE _,h0⟩,?_⟩
  rintro i m ys H ⟨rfl,hi,p⟩
  obtain⟨q0,qa⟩:=hz i ys H hi p;refine⟨q0,?_⟩
  by_cases hlt:i<xs.length
  . refine .inr ⟨⟨xs,xs[i],qa,by simp[hlt]⟩,Pv (i+1),fun ys' H' p'=>⟨xs.length-(i+1),by omega,rfl,hlt,p'⟩,fun x H' y => ?_⟩
    obtain⟨T,x',rfl,hT,rfl,hy⟩:=y;exact hs i x' ys _ T (hy xs qa) hT p
  . have e:i=xs.length:=by omega
    subst e;exact .inl ⟨⟨xs,qa,Zm _⟩,hd ys H p⟩
end
end L2
namespace L2
open PySem PySem.Spec PyProof.Rows
theorem zbv(l:Addr)(items:Array Value)(n:Nat)(dd:Option Addr)(sl:Array (Option Value))(x:Value)(e:Value->Bool)(j:Nat)(hj:j<items.size)
    (hit:e items[j]=true) (hno:∀m (hm:m<items.size),m<j->e items[m]=false) :
    Meets (Builtin.«tuple.index» ⟨[.ref l,x],[]⟩)
      (fun A R s=>s.heap.get? l=some { cls:=.type "tuple", dict:=dd,data:=.seq items n,slots:=sl }/\(∀y,y∈items->SeqAt.EqAt A.in1 s y x (e y))/\R (.ok (.ret (.int j s.toks))) { s with toks:=s.toks+1 }) :=
  .of_wp fun prog w A R s h=>by
    obtain⟨hp,g,d,tk,os⟩:=s;obtain⟨hl,he,h⟩:=h
    wp_walk using AutoSeq1.wpAny_loadPart' hl
    show wpAny (model prog w) A.in1 (forIn [:min items.size items.size] ((none,()):Option PySem.Fin×Unit) fun(i:Nat) _=>(match items[i]? with
      | some y=>do
        let __do_lift <-eqBool y x
        if __do_lift=true then do
            let __do_lift <-retInt (i:Int)
            pure (ForInStep.done (some __do_lift,()))
          else pure (ForInStep.yield (none,()))
      | _=>pure (ForInStep.yield (none,())):Sem (ForInStep (Option PySem.Fin×Unit)))) _ _ _
    rw[Std.Legacy.Range.forIn_eq_forIn_range'];refine wpAny_forIn_list _ (fun rest b s'=>b=(none,())/\s'=(⟨hp,g,d,tk,os⟩:Shared)/\∃i,i<=j/\rest=List.range' i (items.size-i)) _ ?turn ?fin _ _ ⟨rfl,rfl,0,ZE _,by simp[Std.Legacy.Range.size]⟩
    case turn =>
      rintro k rest b s' ⟨rfl,rfl,i,hi,er⟩
      have hlt:i<items.size:=by omega
      rw[show items.size-i=(items.size-(i+1))+1 by omega,List.range'_succ]at er
      injection er with e1 e2
      subst e1;have ei:items[k]? = some items[k]:=by simp[hlt]
      rw[ei];refine wpAny_bind (he _ (Array.getElem_mem hlt) prog w _ _ ?_)
      by_cases hk:k=j
      . subst hk
        rw[hit,if_pos rfl];refine wpAny_bind ?_;unfold retInt
        wp_walk
        exact⟨_,rfl,h⟩
      . rw[hno k hlt (by omega)]
        wp_walk
        exact⟨rfl,rfl,k+1,by omega,e2⟩
    case fin =>
      rintro b s' ⟨rfl,rfl,i,hi,er⟩
      have:(List.range' i (items.size-i)).length=0:=by rw[<-er];rfl
      rw[List.length_range']at this;omega
section
variable{X:Cx}
structure FirstAt(xs:List V)(y:V)(j:Nat):Prop where
  flat:ua y=true
  flats:xs.all ua=true
  hit:∃z,xs[j]? = some z/\eqV z y=true
  no:∀(m:Nat) (z:V),m<j->xs[m]? = some z->eqV z y=false
theorem FirstAt.lt{xs:List V}{y:V}{j:Nat}(h:FirstAt xs y j):j<xs.length:=by
  obtain⟨z,e,_⟩:=h.hit;exact(Zc.mp e).1
theorem aw{xs:List V}{us:List Value}{y z:V}{m:Nat}(r:Vals xs us)(fs:xs.all ua=true)(e:xs[m]? = some z)(hm:m<us.toArray.size):eqU y us.toArray[m]=eqV z y:=by
  obtain⟨w,hw,rw'⟩:=r.get e
  have:us.toArray[m]=w:=by
    have h2:=(Zc.mp hw).2
    simpa using h2
  rw[this];exact zdm rw' (ZR.mp fs _ (Zi e))
def ze3(K:Fg):V->List V->Hp->VK->Prop:=fun x vs H Q=>∃p xs y j,x=.ref p/\vs=[y]/\SqT K H p xs/\FirstAt xs y j/\Q (.int (j:Nat)) H
def zfp(K:Fg):V->List V->Hp->VK->Prop:=fun x vs H Q=>∃p xs y j,x=.ref p/\vs=[y]/\SqL K H p xs/\FirstAt xs y j/\Q (.int (j:Nat)) H
theorem zkt{K:Fg}{x:V}{vs:List V}{H:Hp}{Q:VK}:ze3 K x vs H Q=∃p xs y j,x=.ref p/\vs=[y]/\SqT K H p xs/\FirstAt xs y j/\Q (.int (j:Nat)) H:=rfl
theorem zky{K:Fg}{x:V}{vs:List V}{H:Hp}{Q:VK}:zfp K x vs H Q=∃p xs y j,x=.ref p/\vs=[y]/\SqL K H p xs/\FirstAt xs y j/\Q (.int (j:Nat)) H:=rfl
theorem zbi:MtR X "tuple.index" (ze3 X.K):=by
  intro pins s σ H x vs v us Q I rx rvs h;obtain⟨p,xs,y,j,rfl,rfl,hq,hF,q⟩:=h;cases rx;obtain⟨u,rfl,ru⟩:=tz rvs;obtain⟨its,r,pl,hz⟩:=I.tuple hq;obtain⟨⟨cls,dd,data,sl⟩,ho,hc,n,hd⟩:=id pl;simp only at hc hd;subst hc hd;have hl:=r.length;have hjl:j<its.toArray.size:=by rw[Zr,<-hl];exact hF.lt
  obtain⟨z,e,hit⟩:=hF.hit;refine call_meets PySem.F.slot_tuple_index ⟨_,ho,rfl⟩ PySem.F.entry_tuple_index (PySem.F.args_tuple_index_2 _ _) (zbv p its.toArray n dd sl u (eqU y) j hjl ?_ ?_) ⟨ho,fun w hw=>ku ru hF.flat r hF.flats w (by simpa using hw),⟨.int j,H,I.tok _,⟨_,rfl⟩,q⟩⟩
  . rw[aw r hF.flats e];exact hit
  . intro m hm hmj
    have hml:m<xs.length:=by rw[hl];simpa using hm
    rw[aw r hF.flats (Zb hml)];exact hF.no m _ hmj (Zb hml)
theorem ni:MtR X "list.index" (zfp X.K):=by
  intro pins s σ H x vs v us Q I rx rvs h;obtain⟨p,xs,y,j,rfl,rfl,hq,hF,q⟩:=h;cases rx;obtain⟨u,rfl,ru⟩:=tz rvs;obtain⟨its,r,pl,hz⟩:=I.list hq;obtain⟨⟨cls,dd,data,sl⟩,ho,hc,n,hd⟩:=id pl.isList;simp only at hc hd;subst hc hd;have hl:=r.length;have hjl:j<its.toArray.size:=by rw[Zr,<-hl];exact hF.lt
  have hn:=l5;obtain⟨z,e,hit⟩:=hF.hit;refine call_meets PySem.F.slot_list_index ⟨_,ho,rfl⟩ PySem.F.entry_list_index (PySem.F.args_list_index_2 _ _) (SeqAt.list_indexAt p its.toArray n dd sl u (eqU y) j hjl (by have:=hF.lt;omega) ?_ ?_) ⟨ho,fun w hw=>ku ru hF.flat r hF.flats w (by simpa using hw),⟨.int j,H,I.tok _,⟨_,rfl⟩,q⟩⟩
  . rw[aw r hF.flats e];exact hit
  . intro m hm hmj
    have hml:m<xs.length:=by rw[hl];simpa using hm
    rw[aw r hF.flats (Zb hml)];exact hF.no m _ hmj (Zb hml)
end
section
variable{X:Cx}
theorem hu10{A:Around}{k:Nat}(hr:Room k A):A.units+1<cLine:=by have:=hu9 hr;omega
def rInK(neg:Bool):R2:=fun y x H Q=>∃a o,x=.ref a/\DGet H a y o/\Q (.bl (neg ^^ o.isSome)) H
theorem e_inK{neg:Bool}{y x:V}{H:Hp}{Q:VK}:rInK neg y x H Q=∃a o,x=.ref a/\DGet H a y o/\Q (.bl (neg ^^ o.isSome)) H:=rfl
theorem op_inK(hu:X.A.units+1<cLine):OpR X (compareOp .In) (rInK false):=by
  intro pins s σ H x y v u Q I rx ry h;obtain⟨a,o,rfl,g,q⟩:=h;cases ry;exact d_in hu I g rx fun s3 I3=>⟨.bl o.isSome,H,I3,rfl,by simpa using q⟩
def rSetD:TSet:=fun o i v H Q=>∃a H',o=.ref a/\DPut H a i v H'/\Q H'
theorem e_setD{o i v:V}{H:Hp}{Q:Hp->Prop}:rSetD o i v H Q=∃a H',o=.ref a/\DPut H a i v H'/\Q H':=rfl
theorem i9(hu:X.A.units+1<cLine):PSet X rSetD:=by
  intro pins s σ H o i v ov iv u Q I ro ri rv h;obtain⟨a,H',rfl,g,q⟩:=h;cases ro;exact zhv hu I g ri rv fun s4 I4=>⟨H',I4,q⟩
theorem zlq{σ:St}{H:Hp}{Q:VK}:zjh σ H Q=∀p,H p=none->Q (.ref p) (upd H p (.dT [])):=rfl
theorem e_dget{td ty:TE}{σ:St}{H:Hp}{Q:VK}:tDGet td ty σ H Q=td σ H fun x H1=>ty σ H1 fun y H2=>∃a v,x=.ref a/\DGet H2 a y (some v)/\Q v H2:=rfl
theorem zby{prog:Program}{w:World}(d:Addr)(hd:(d==sysModules)=false) :
    MeetsIn prog w (Builtin.«dict.__len__» ⟨[.ref d],[]⟩) (fun _ R s=>∃o es ep,s.heap.get? d=some o/\o.data=.dict es ep/\R (.ok (.ret (.int es.size s.toks))) { s with toks:=s.toks+1 }) :=
  .of_wp fun A R s ⟨o,es,ep,ho,hdat,h⟩=>by
    show wpAny _ _ (dictSize d >>= _) _ _ s
    unfold dictSize;refine wpAny_bind (wpAny_bind (wpAny_dictEntries ho hdat (wpAny_pure ?_)))
    show wpAny _ _ (Builtin.Dict.pendingCount d >>= _) _ _ s
    refine wpAny_bind (wpAny_pendingCount_other hd ?_);refine wpAny_ret_mkInt ?_;rw[Nat.add_zero];exact h
theorem zlg {prog:Program} {w:World} {A:Around} {E:Value->Shared->Prop} {s:Shared} {d:Addr} {o:Obj} {es:Array DictEntry} {ep:Nat} {Q:Value->Shared->Prop} (hd:(d==sysModules)=false) (ht:s.TypeIs (.ref d) "dict") (ho:s.heap.get? d=some o) (hdat:o.data=.dict es ep) (hfit:(es.size:Int)<2^63)
    (h:Q (.int es.size (s.toks+1)) { s with toks:=s.toks+1+1 }):wpAny (model prog w) A (call (.builtin "len") [.ref d]) Q E s:=by
  refine Calls.call_function_entry kind_len plain_len entry_len (args_len1 _) ?_;unfold Builtin.«len»;refine wpAny_bind (m:=oneArg "len" _) (wpAny_pure ?_)
  refine wpAny_bind (m:=callSpecial? (.ref d) (Str.ofString "__len__")) (wpAny_callSpecial?_slot (name:=Str.ofString "__len__") ht PySem.F.slot_dict_len
    (call_meetsIn PySem.F.slot_dict_len ht PySem.F.entry_dict_len (PySem.F.args_dict_len_1 _) (zby d hd) ⟨o,es,ep,ho,hdat,?_⟩))
  show wpAny _ _ _ _ _ { s with toks:=s.toks+1 }
  refine wpAny_bind (wpAny_holding (wpAny_pure ?_));refine wpAny_bind (wpAny_letGo ?_)
  show wpAny _ _ (if ((es.size:Nat):Int)<0 then _ else _) _ _ _
  rw[if_neg (by omega)]
  show wpAny _ _ (if ((es.size:Nat):Int) ≥ 2^63 then _ else _) _ _ _
  rw[if_neg (by omega)];exact wpAny_bind (wpAny_mkInt (wpAny_pure ⟨_,rfl,h⟩))
theorem nk:ve X (.builtin "len") (fun xs H Q=>∃a kvs,xs=[V.ref a]/\H a=some (.dT kvs)/\Q (.int kvs.length) H):=by
  intro pins s σ H xs us Q I r h;obtain⟨a,kvs,rfl,ha,q⟩:=h;obtain⟨u,rfl,ru⟩:=tz r;cases ru;obtain⟨z,hd,ys,rel,dd⟩:=zf5 I.hok ha;have ht:=dd.typeIs (s:=s);obtain⟨o,es,ep,ho,hc,hdat,he,_⟩:=id dd
  have hl:es.size=kvs.length:=by
    rw[size_of_entries he];exact(Paired.length rel).symm
  have hn:=l5;refine zlg hd ht ho hdat (by omega) ?_;rw[hl];exact⟨.int kvs.length,H,I.tok _,⟨_,rfl⟩,q⟩
end
end L2
namespace L2
open PySem PySem.Spec PyProof.Rows
section
variable{X:Cx}
def tBMT(r:V->List V->Hp->VK->Prop)(to:TE)(t:TA):TE:=fun σ H Q=>to σ H fun x H1=>(∃p xs,x=.ref p/\Rd H1 p (.tup xs))/\t σ H1 fun xs H2=>r x xs H2 Q
theorem e_BMT{r:V->List V->Hp->VK->Prop}{to:TE}{t:TA}{σ:St}{H:Hp}{Q:VK}:tBMT r to t σ H Q=to σ H fun x H1=>(∃p xs,x=.ref p/\Rd H1 p (.tup xs))/\t σ H1 fun xs H2=>r x xs H2 Q:=rfl
theorem zi0 {o e:Expr} {es:List Expr} {to:TE} {t:TA} {name:Str} {apos cpos:Pos} {id:String} {r:V->List V->Hp->VK->Prop} (pa:PlainAttrs "tuple") (slot:Slot "tuple" name id) (hty:typeOf (.builtin id)=pure (.type "method_descriptor")) (hm:MtR X id r) (ho:PE X o to) (ha:PA X (e::es) t)
    (hbase:attributeBase o name X.env (eval o X.env)=eval o X.env:=by rfl)
    (hfew:((backTo cpos (starEach (e::es) X.env)).all (fun x => !x.1)&&(backToKw cpos (keywordEach [] X.env)).all (fun x=>x.1.isSome)
      && decide ((e::es).length+([]:List Keyword).length+(if ([]:List Keyword).isEmpty then 0 else 1)<30))=true:=by rfl)
    (hline:(apos.endLine==cpos.line)=true:=by rfl) (hs:starEach (e::es) X.env=(false,eval e X.env)::starEach es X.env:=by rfl) (hplain:(backTo cpos (starEach es X.env)).any (·.1)=false:=by rfl) :
    PE X (.Call (.Attribute o name apos) (e::es) [] cpos) (tBMT r to t):=by
  intro pins s σ H Q I h;refine wpAny_Call_method_late hbase hfew hline rfl (thn (ho pins s σ H _ I h) fun v s1 ⟨x,H1,I1,r1,⟨p,ys,ex,hp⟩,q1⟩ => ?_);subst ex;obtain rfl:v=Value.ref p:=r1;obtain⟨z,its,rr,ob,e1,c1,n1,d1,f1⟩:=(show ObjOk X.prog X.w H1 s1.heap p (.tup ys) from hp.ok I1.hok);have h1:s1.TypeIs (.ref p) "tuple" := ⟨ob,e1,c1⟩
  have h2:∀a,Value.ref p=.ref a->∃ob,s1.heap.get? a=some ob/\ob.dict=none:=fun a e=>by
    cases e;exact⟨ob,e1,f1⟩
  refine⟨"tuple", id,pa,slot,hty,h1,h2,?_⟩;have hA:=ha cpos pins s1 σ H1 _ I1 q1;rw[hs]at hA ⊢;refine Calls.callWith_builtin (by show(false||(backTo cpos (starEach es X.env)).any (·.1))=false;rw[hplain] <;> rfl) (Calls.evalArgs_plain ?_);exact thn hA fun us s2 ⟨vs,H2,I2,r2,q2⟩=>hm pins s2 σ H2 (.ref p) vs (.ref p) us Q I2 rfl r2 q2
end
end L2
namespace L2
open PySem PySem.Spec PyProof.Rows
theorem ze5{i:Int}{n:Nat}(h1 : -(2^n)<i)(h2:i<2^n):Builtin.Int.intBits i<=n:=by
  unfold Builtin.Int.intBits
  split
  . exact ZE _
  . rename_i h
    have h0:i≠0:=fun e=>h (by rw[e];rfl)
    have hn:i.natAbs<2^n:=by
      have e:((2^n:Nat):Int)=(2:Int)^n:=by rw[Int.natCast_pow];rfl
      have:(i.natAbs:Int)<((2^n:Nat):Int):=by rw[e];omega
      exact_mod_cast this
    exact(Nat.log2_lt (by omega)).mpr hn
def CMulB(i j:Int):Prop:=(-(10^60)<=i/\i<=10^60) /\ -(10^60)<=j/\j<=10^60
theorem CMulB.ok{i j:Int}(h:CMulB i j):IntMulOk i j:=by
  have e:(10:Int)^60<2^200:=by decide
  obtain⟨⟨a,b⟩,c,d⟩:=h;exact .of_bits (Zd (ze5 (n:=200) (by omega) (by omega)) (by decide)) (Zd (ze5 (n:=200) (by omega) (by omega)) (by decide))
theorem zmm{X:Cx}:OpR X (binaryOp .Mult) (rI CMulB fun i j=>.int (i*j)):=opI fun _ _ _ _ _ _ _ hc q=>mul_int q hc.ok
end L2
namespace L2
open PySem
def SeqH(h:Heap)(l:Addr)(xs:Array Value):Prop:=∃o n,h.get? l=some o/\o.data=.seq xs n
section
variable{prog:Program}{w:World}{A:Around}{E:Value->Shared->Prop}{s:Shared}
theorem mf{it t:Addr}{i:Nat}{items:Array Value}{x:Value}{Q:Value->Shared->Prop}(hit:s.heap.IsTupleIter it t i)
    (ht:SeqH s.heap t items) (hx:items[i]? = some x) (hQ:∀h',h'.IsTupleIter it t (i+1)->Heap.SameBut it s.heap h'->Q x { s with heap:=h' }) :
    wpAny (model prog w) A (Builtin.SmallTypes.nextOf (.ref it)) Q E s:=by
  obtain⟨o,ho,hc,hd⟩:=id hit;obtain⟨ol,nl,hol,hdl⟩:=ht;unfold Builtin.SmallTypes.nextOf
  refine wpAny_bind (wpAny_callSpecial?_slot (name:=Str.ofString "__next__") hit.typeIs F.slot_tuple_iterator_next
    (wpAny_call_entry F.slot_tuple_iterator_next hit.typeIs F.entry_tuple_iterator_next ?_ (F.args_tuple_iterator_next_1 _)))
  show wpAny _ _ (field (.ref it) 0 >>= _) _ _ s
  refine wpAny_bind (wpAny_field ho hd (x:=.ref t) rfl ?_)
  show wpAny _ _ (if (Value.ref t==Value.none)=true then _ else _) _ _ s
  rw[if_neg (show ¬((Value.ref t==Value.none)=true) from Bool.false_ne_true)]
  show wpAny _ _ (field (.ref it) 1 >>= _) _ _ s
  refine wpAny_bind (wpAny_field ho hd (x:=.int i 0) rfl ?_)
  show wpAny _ _ (seqItems? (.ref t) >>= _) _ _ s
  refine wpAny_bind (wpAny_seqItems hol hdl ?_);simp only[Zw,hx];refine wpAny_bind (wpAny_setField ho hd (by simp) (wpAny_pure ⟨x,rfl,wpAny_pure (hQ _ ?_ (Heap.SameBut.update ..))⟩))
  exact⟨_,Heap.get?_update_self _ ho (Obj.isFreed_of_fields (Obj.data_mapFields hd _)),(Obj.cls_mapFields ..).trans hc,by
    rw[Obj.data_mapFields hd];simp[rawInt]⟩
theorem rc{it t:Addr}{i:Nat}{items:Array Value}{Q:Value->Shared->Prop}(hh:A.handled=none)
    (hit:s.heap.IsTupleIter it t i) (ht:SeqH s.heap t items) (hx:items[i]? = none)
    (hE:∀h' e,Heap.ExtBut it s.heap h'->(∃o,h'.get? e=some o/\o.cls=.type "StopIteration")->E (.ref e) { s with heap:=h' }) :
    wpAny (model prog w) A (Builtin.SmallTypes.nextOf (.ref it)) Q E s:=by
  obtain⟨o,ho,hc,hd⟩:=id hit;obtain⟨ol,nl,hol,hdl⟩:=ht;unfold Builtin.SmallTypes.nextOf
  refine wpAny_bind (wpAny_callSpecial?_slot (name:=Str.ofString "__next__") hit.typeIs F.slot_tuple_iterator_next
    (wpAny_call_entry F.slot_tuple_iterator_next hit.typeIs F.entry_tuple_iterator_next ?_ (F.args_tuple_iterator_next_1 _)))
  show wpAny _ _ (field (.ref it) 0 >>= _) _ _ s
  refine wpAny_bind (wpAny_field ho hd (x:=.ref t) rfl ?_)
  show wpAny _ _ (if (Value.ref t==Value.none)=true then _ else _) _ _ s
  rw[if_neg (show ¬((Value.ref t==Value.none)=true) from Bool.false_ne_true)]
  show wpAny _ _ (field (.ref it) 1 >>= _) _ _ s
  refine wpAny_bind (wpAny_field ho hd (x:=.int i 0) rfl ?_)
  show wpAny _ _ (seqItems? (.ref t) >>= _) _ _ s
  refine wpAny_bind (wpAny_seqItems hol hdl ?_);simp only[Zw,hx];refine wpAny_bind (wpAny_rule (wpAny_bind (wpAny_setField ho hd (by simp) ?_)))
  show wpAny _ _ (newExc (.type "StopIteration") [] >>= _) _ _ _
  refine wpAny_bind ?_;simp only[newExc,newTuple];refine wpAny_bind (wpAny_newObj_type ?_ (by size_fits));refine wpAny_bind (m:=firstArgMember _ _) (wpAny_of_eq (a:=Value.none) (by first | rfl | (simp only[firstArgMember];rfl)) ?_);refine wpAny_newObj_type ?_ (by size_fits);simp only[raiseNew];refine wpAny_bind (wpAny_handled ?_)
  first | rw[show A.in1.handled=none from hh] | rw[hh]
  refine wpAny_bind (wpAny_pure (wpAny_throw ?_));exact hE _ _ (((Heap.SameBut.update ..).extBut.push _).push _) ⟨_,Heap.get?_push_size _ rfl,rfl⟩
theorem du{it t:Addr}{i:Nat}{items:Array Value}{x:Value}{Q:Value->Shared->Prop}(hit:s.heap.IsListIter it t i)
    (ht:SeqH s.heap t items) (hx:items[i]? = some x) (hQ:∀h',h'.IsListIter it t (i+1)->Heap.SameBut it s.heap h'->Q x { s with heap:=h' }) :
    wpAny (model prog w) A (Builtin.SmallTypes.nextOf (.ref it)) Q E s:=by
  obtain⟨o,ho,hc,hd⟩:=id hit;obtain⟨ol,nl,hol,hdl⟩:=ht;unfold Builtin.SmallTypes.nextOf
  refine wpAny_bind (wpAny_callSpecial?_slot (name:=Str.ofString "__next__") hit.typeIs slot_listiter_next
    (wpAny_call_entry slot_listiter_next hit.typeIs entry_listiter_next ?_ (args_listiter_next _)))
  show wpAny _ _ (field (.ref it) 0 >>= _) _ _ s
  refine wpAny_bind (wpAny_field ho hd (x:=.ref t) rfl ?_)
  show wpAny _ _ (if (Value.ref t==Value.none)=true then _ else _) _ _ s
  rw[if_neg (show ¬((Value.ref t==Value.none)=true) from Bool.false_ne_true)]
  show wpAny _ _ (field (.ref it) 1 >>= _) _ _ s
  refine wpAny_bind (wpAny_field ho hd (x:=.int i 0) rfl ?_)
  show wpAny _ _ (seqItems? (.ref t) >>= _) _ _ s
  refine wpAny_bind (wpAny_seqItems hol hdl ?_);simp only[Zw,hx];refine wpAny_bind (wpAny_setField ho hd (by simp) (wpAny_pure ⟨x,rfl,wpAny_pure (hQ _ ?_ (Heap.SameBut.update ..))⟩))
  exact⟨_,Heap.get?_update_self _ ho (Obj.isFreed_of_fields (Obj.data_mapFields hd _)),(Obj.cls_mapFields ..).trans hc,by
    rw[Obj.data_mapFields hd];simp[rawInt]⟩
theorem bf{it t:Addr}{i:Nat}{items:Array Value}{Q:Value->Shared->Prop}(hh:A.handled=none)
    (hit:s.heap.IsListIter it t i) (ht:SeqH s.heap t items) (hx:items[i]? = none)
    (hE:∀h' e,Heap.ExtBut it s.heap h'->(∃o,h'.get? e=some o/\o.cls=.type "StopIteration")->E (.ref e) { s with heap:=h' }) :
    wpAny (model prog w) A (Builtin.SmallTypes.nextOf (.ref it)) Q E s:=by
  obtain⟨o,ho,hc,hd⟩:=id hit;obtain⟨ol,nl,hol,hdl⟩:=ht;unfold Builtin.SmallTypes.nextOf
  refine wpAny_bind (wpAny_callSpecial?_slot (name:=Str.ofString "__next__") hit.typeIs slot_listiter_next
    (wpAny_call_entry slot_listiter_next hit.typeIs entry_listiter_next ?_ (args_listiter_next _)))
  show wpAny _ _ (field (.ref it) 0 >>= _) _ _ s
  refine wpAny_bind (wpAny_field ho hd (x:=.ref t) rfl ?_)
  show wpAny _ _ (if (Value.ref t==Value.none)=true then _ else _) _ _ s
  rw[if_neg (show ¬((Value.ref t==Value.none)=true) from Bool.false_ne_true)]
  show wpAny _ _ (field (.ref it) 1 >>= _) _ _ s
  refine wpAny_bind (wpAny_field ho hd (x:=.int i 0) rfl ?_)
  show wpAny _ _ (seqItems? (.ref t) >>= _) _ _ s
  refine wpAny_bind (wpAny_seqItems hol hdl ?_);simp only[Zw,hx];refine wpAny_bind (wpAny_rule (wpAny_bind (wpAny_setField ho hd (by simp) ?_)))
  show wpAny _ _ (newExc (.type "StopIteration") [] >>= _) _ _ _
  refine wpAny_bind ?_;simp only[newExc,newTuple];refine wpAny_bind (wpAny_newObj_type ?_ (by size_fits));refine wpAny_bind (m:=firstArgMember _ _) (wpAny_of_eq (a:=Value.none) (by first | rfl | (simp only[firstArgMember];rfl)) ?_);refine wpAny_newObj_type ?_ (by size_fits);simp only[raiseNew];refine wpAny_bind (wpAny_handled ?_)
  first | rw[show A.in1.handled=none from hh] | rw[hh]
  refine wpAny_bind (wpAny_pure (wpAny_throw ?_));exact hE _ _ (((Heap.SameBut.update ..).extBut.push _).push _) ⟨_,Heap.get?_push_size _ rfl,rfl⟩
end
structure Drw where
  it:Addr
  l:Addr
  xs:Array Value
def DrAt(h:Heap)(d:Drw)(k:Nat):Prop:=(h.IsListIter d.it d.l k\/h.IsTupleIter d.it d.l k)/\SeqH h d.l d.xs
theorem DrAt.ext{h h':Heap}{d:Drw}{k:Nat}(q:DrAt h d k)(h1:∀o,h.get? d.it=some o->h'.get? d.it=some o)(h2:∀o,h.get? d.l=some o->h'.get? d.l=some o):DrAt h' d k:=by
  obtain⟨a,o',n,e',r'⟩:=q;refine⟨?_,o',n,h2 o' e',r'⟩
  rcases a with ⟨o,e,r⟩ | ⟨o,e,r⟩
  . exact .inl ⟨o,h1 o e,r⟩
  . exact .inr ⟨o,h1 o e,r⟩
theorem DrAt.itAt{h:Heap}{d:Drw}{k:Nat}(q:DrAt h d k):∃o,h.get? d.it=some o/\o.data=.fields #[.ref d.l,.int k 0]:=by
  rcases q.1 with ⟨o,e,c,r⟩ | ⟨o,e,c,r⟩ <;> exact⟨o,e,r⟩
theorem DrAt.ne{h:Heap}{d:Drw}{k:Nat}(q:DrAt h d k):d.l≠d.it:=fun e=>by
  obtain⟨o,e1,r1⟩:=q.itAt;obtain⟨o',n,e2,r2⟩:=q.2;rw[e,e1]at e2;cases e2;rw[r1]at r2;cases r2
section
variable{prog:Program}{w:World}{A:Around}{E:Value->Shared->Prop}{s:Shared}
theorem za9{d:Drw}{k:Nat}{x:Value}{Q:Value->Shared->Prop}(q:DrAt s.heap d k)(hx:d.xs[k]? = some x)(hQ:∀h',DrAt h' d (k+1)->Heap.SameBut d.it s.heap h'->Q x { s with heap:=h' }) :
    wpAny (model prog w) A (Builtin.SmallTypes.nextOf (.ref d.it)) Q E s:=by
  have hne:=q.ne;obtain⟨a,b⟩:=q
  have keep:∀h',Heap.SameBut d.it s.heap h'->SeqH h' d.l d.xs:=fun h' hs=>by
    obtain⟨o',n,e',r'⟩:=b;exact⟨o',n,hs.extBut _ _ hne e',r'⟩
  rcases a with a | a
  . exact du a b hx fun h' a' hs=>hQ h' ⟨.inl a',keep h' hs⟩ hs
  . exact mf a b hx fun h' a' hs=>hQ h' ⟨.inr a',keep h' hs⟩ hs
theorem zj0{d:Drw}{k:Nat}{Q:Value->Shared->Prop}(hh:A.handled=none)(q:DrAt s.heap d k)(hx:d.xs[k]? = none)
    (hE:∀h' e,Heap.ExtBut d.it s.heap h'->(∃o,h'.get? e=some o/\o.cls=.type "StopIteration")->E (.ref e) { s with heap:=h' }) :
    wpAny (model prog w) A (Builtin.SmallTypes.nextOf (.ref d.it)) Q E s:=by
  obtain⟨a,b⟩:=q
  rcases a with a | a
  . exact bf hh a b hx hE
  . exact rc hh a b hx hE
abbrev xl(h:Heap)(T:Addr)(xs:List Value):Prop:=h.get? T=some { cls:=.type "tuple", data:=.seq xs.toArray }
structure fc(z TI TO:Addr)(ds:List Drw):Prop where
  TIz:TI≠z
  TOz:TO≠z
  TITO:TI≠TO
  iz:∀d∈ds,d.it≠z/\d.it≠TI/\d.it≠TO
  lz:∀d∈ds,d.l≠z/\d.l≠TO
  ii:∀(i j:Nat) (d e:Drw),ds[i]? = some d->ds[j]? = some e->i≠j->d.it≠e.it
  li:∀(d e:Drw),d∈ds->e∈ds->d.l≠e.it
structure ZSt(h0 h:Heap)(z TI TO:Addr)(ds:List Drw)(vs old:List Value)(k j:Nat):Prop where
  zip:IsZip h z TI TO .ellipsis
  to:xl h TO (vs.take j++old.drop j)
  done:∀(i:Nat) (d:Drw),ds[i]? = some d->i<j->DrAt h d (k+1)
  todo:∀(i:Nat) (d:Drw),ds[i]? = some d->j<=i->DrAt h d k
  keep:∀c o,c≠z->c≠TO->(∀d∈ds,c≠d.it)->h0.get? c=some o->h.get? c=some o
  size:h.objs.size=h0.objs.size
theorem zc1{T:Addr}{xs:List Value}{x:Value}{k:Nat}{Q:Unit->Shared->Prop}(hT:xl s.heap T xs)(h8:xs.length<=8)
    (h:∀h',xl h' T (xs.set k x)->Heap.SameBut T s.heap h'->Q () { s with heap:=h' }):wpAny (model prog w) A (updateSeq T (·.setIfInBounds k x)) Q E s:=by
  have z1:xs.toArray.size<=sizeLine:=by rw[Zr];exact Zd h8 (by decide)
  have z2:(xs.toArray.setIfInBounds k x).size<=sizeLine+1:=by rw[Array.size_setIfInBounds];omega
  refine wpAny_updateSeq (hz:=z1) (_hz':=z2) hT rfl (h _ ?_ (Heap.SameBut.update ..))
  show(s.heap.update T _).get? T=_
  rw[Heap.get?_update_self _ hT rfl];simp[Obj.mapSeq]
theorem d0{α:Type}{l:List α}{j i:Nat}{v:α}{rest:List (α×Nat)}(er:(v,i)::rest=l.zipIdx.drop j):l[j]? = some v/\i=j/\rest=l.zipIdx.drop (j+1):=by
  have h0:l.zipIdx[j]? = some (v,i):=by
    have:(l.zipIdx.drop j)[0]? = some (v,i):=by rw[<-er];rfl
    rwa [Xe,Nat.add_zero]at this
  rw[List.getElem?_zipIdx]at h0;have ht:rest=(l.zipIdx.drop j).tail:=by rw[<-er];rfl
  cases e:l[j]? with
  | none=>rw[e]at h0;cases h0
  | some u =>
    rw[e]at h0;simp at h0;exact⟨by rw[h0.1],h0.2.symm,by rw[ht,List.tail_drop]⟩
theorem zkm{z TI TO:Addr}{ds:List Drw}{vs old:List Value}{k:Nat}{Q:Value->Shared->Prop}(D:fc z TI TO ds)(hn:ds≠[])(hz:IsZip s.heap z TI TO .none)(hTI:xl s.heap TI (ds.map fun d=>.ref d.it))(hTO:xl s.heap TO old)
    (lv:vs.length=ds.length) (lo:old.length=ds.length) (h8:ds.length<=8) (hd:∀d∈ds,DrAt s.heap d k) (hv:∀(i:Nat) (d:Drw),ds[i]? = some d->d.xs[k]? = vs[i]?)
    (hQ:∀h',IsZip h' z TI TO (rawInt s.heap.objs.size)->xl h' TO vs->(∀d∈ds,DrAt h' d (k+1))->xl h' s.heap.objs.size vs->h'.objs.size=s.heap.objs.size+1 ->
      (∀c o,c≠z->c≠TO->(∀d∈ds,c≠d.it)->s.heap.get? c=some o->h'.get? c=some o)->Q (.ref s.heap.objs.size) { s with heap:=h' }) :
    wpAny (model prog w) A (Builtin.«zip.__next__» ⟨[.ref z],[]⟩) (fun fin s'=>∃v,fin=.done (.ret v)/\Q v s') E s:=by
  show wpAny _ _ (field (.ref z) 2 >>= _) _ _ _
  refine wpAny_bind (wpAny_field hz rfl (x:=.bool false) rfl ?_)
  show wpAny _ _ (field (.ref z) 3 >>= _) _ _ _
  refine wpAny_bind (wpAny_field hz rfl (x:=.ref TI) rfl ?_);refine wpAny_bind (wpAny_seqItems hTI rfl ?_)
  have hne:¬(((ds.map fun d=>Value.ref d.it).toArray).isEmpty=true):=by
    simp;exact hn
  show wpAny _ _ (if ((ds.map fun d=>Value.ref d.it).toArray.isEmpty=true) then _ else _) _ _ _
  rw[if_neg hne]
  show wpAny _ _ (Builtin.SmallTypes.ownedTupleIsFree (.ref z) >>= _) _ _ _
  refine wpAny_bind ?_;unfold Builtin.SmallTypes.ownedTupleIsFree;refine wpAny_bind (wpAny_field hz rfl (x:=.none) rfl (wpAny_pure ?_));simp only[if_true];refine wpAny_bind (wpAny_rule ?_);refine wpAny_bind (wpAny_field hz rfl (x:=.ref TO) rfl ?_);refine wpAny_bind (wpAny_setField_rec hz (by simp) fun h₁ hz₁ hs₁ => ?_)
  replace hz₁:IsZip h₁ z TI TO .ellipsis:=hz₁
  refine wpAny_bind ?_
  have st0:ZSt s.heap h₁ z TI TO ds vs old k 0:=⟨hz₁,by
    rw[List.take_zero,ZT,Xd]
    exact hs₁.extBut _ _ D.TOz hTO,fun i d _ h=>absurd h (YH _),fun i d e _=>(hd d (Zi e)).ext (fun o q=>hs₁.extBut _ _ (D.iz d (Zi e)).1 q) (fun o q=>hs₁.extBut _ _ (D.lz d (Zi e)).1 q),fun c o c1 _ _ q=>hs₁.extBut _ _ c1 q,hs₁.1⟩
  refine wpAny_forIn_list _ (fun rest b s'=>b=(none,())/\∃j h,s'={ s with heap:=h }/\j<=ds.length/\rest=((ds.map fun d=>Value.ref d.it).zipIdx).drop j/\ZSt s.heap h z TI TO ds vs old k j) _ ?turn ?fin _ _ ⟨rfl,0,h₁,rfl,ZE _,rfl,st0⟩
  case turn =>
    rintro⟨v,i⟩ rest b s' ⟨rfl,j,h,rfl,hj,er,st⟩
    obtain⟨ev,rfl,er2⟩:=d0 er;rw[Ze]at ev
    cases ed:ds[i]? with
    | none=>rw[ed]at ev;cases ev
    | some d =>
    rw[ed]at ev;cases ev;have hil:=(Zc.mp ed).1;have hm:=Zi ed;have ex:=hv i d ed;obtain⟨x,evx⟩:∃x,vs[i]? = some x:=⟨vs[i]'(by omega),Zb _⟩;rw[evx]at ex;refine wpAny_bind (wpAny_onRaise ?_)
    show wpAny _ _ (Builtin.SmallTypes.nextOf (.ref d.it) >>= _) _ _ _
    refine wpAny_bind (za9 (s:={ s with heap:=h }) (st.todo i d ed (Zm _)) ex fun h₂ hd₂ hs₂=>wpAny_pure ?_)
    replace hs₂:Heap.SameBut d.it h h₂:=hs₂
    have hTO₂:xl h₂ TO (vs.take i++old.drop i):=hs₂.extBut _ _ (Ne.symm (D.iz d hm).2.2) st.to;refine wpAny_bind (wpAny_seqItems (s:={ s with heap:=h₂ }) hTO₂ rfl ?_);refine wpAny_bind (zc1 (s:={ s with heap:=h₂ }) hTO₂ (by rw[Zo,Zj,Yc];omega) fun h₃ hTO₃ hs₃ => ?_)
    replace hs₃:Heap.SameBut TO h₂ h₃:=hs₃
    refine wpAny_bind (wpAny_letGo (wpAny_pure ?_));have up:∀c o,c≠d.it->c≠TO->h.get? c=some o->h₃.get? c=some o:=fun c o c1 c2 e=>hs₃.extBut _ _ c2 (hs₂.extBut _ _ c1 e)
    refine⟨rfl,i+1,h₃,rfl,hil,er2,⟨up _ _ (Ne.symm (D.iz d hm).1) (Ne.symm D.TOz) st.zip,?_,fun m e em hmi => ?_,fun m e em hmi => ?_,fun c o c1 c2 c3 e=>up c o (c3 d hm) c2 (st.keep c o c1 c2 c3 e),?_⟩⟩
    . have:(vs.take i++old.drop i).set i x=vs.take (i+1)++old.drop (i+1):=by
        have lt:(vs.take i).length=i:=by rw[Zj];omega
        have eo:old.drop i=old[i]'(by omega)::old.drop (i+1):=List.drop_eq_getElem_cons (by omega);rw[eo,List.set_append_right _ _ (by omega),lt,Nat.sub_self,List.set_cons_zero,Zq,evx];simp
      rw[this]at hTO₃;exact hTO₃
    . have hme:=Zi em
      by_cases hmi':m=i
      . subst hmi'
        rw[ed]at em;cases em;exact hd₂.ext (fun o q=>hs₃.extBut _ _ (D.iz d hm).2.2 q) (fun o q=>hs₃.extBut _ _ (D.lz d hm).2 q)
      . exact(st.done m e em (by omega)).ext (fun o q=>up _ _ (D.ii m i e d em ed hmi') (D.iz e hme).2.2 q) (fun o q=>up _ _ (D.li e d hme hm) (D.lz e hme).2 q)
    . have hme:=Zi em
      exact(st.todo m e em (by omega)).ext (fun o q=>up _ _ (D.ii m i e d em ed (by omega)) (D.iz e hme).2.2 q) (fun o q=>up _ _ (D.li e d hme hm) (D.lz e hme).2 q)
    . rw[hs₃.1,hs₂.1,st.size]
  case fin =>
    rintro b s' ⟨rfl,j,h,rfl,hj,er,st⟩
    have hjl:j=ds.length:=by
      have:=congrArg List.length er;rw[Yc,List.length_zipIdx,Za,Yq]at this;omega
    subst hjl
    have hTO₅:xl h TO vs:=by
      have:=st.to
      rwa [<-lv,Zt,List.drop_of_length_le (by omega),Ye]at this
    refine wpAny_bind (wpAny_seqItems (s:={ s with heap:=h }) hTO₅ rfl ?_);have hzl:vs.length<=sizeLine:=Zd (show vs.length<=8 by omega) (by decide);refine wpAny_bind (wpAny_newTuple (s:={ s with heap:=h }) ?_ (by simpa using hzl));have hsz:=st.size;have hzlt:z<h.objs.size:=Heap.lt_size st.zip
    show wpAny _ _ (Builtin.SmallTypes.ownedTupleHandOut (.ref z) (.ref h.objs.size) >>= _) _ _ _
    refine wpAny_bind ?_;unfold Builtin.SmallTypes.ownedTupleHandOut;have hz₆:IsZip (h.push { cls:=.type "tuple", data:=.seq vs.toArray }) z TI TO .ellipsis:=Heap.get?_push_of_some _ st.zip;refine wpAny_bind (wpAny_setField_rec (s:={ s with heap:=h.push { cls:=.type "tuple", data:=.seq vs.toArray } }) hz₆ (by simp) fun h₇ hz₇ hs₇ => ?_)
    replace hz₇:IsZip h₇ z TI TO (rawInt h.objs.size):=hz₇
    replace hs₇:Heap.SameBut z (h.push { cls:=.type "tuple", data:=.seq vs.toArray }) h₇:=hs₇
    refine wpAny_setField_rec (s:={ s with heap:=h₇ }) hz₇ (by simp) fun h₈ hz₈ hs₈ => ?_
    replace hz₈:IsZip h₈ z TI TO (rawInt h.objs.size):=hz₈
    replace hs₈:Heap.SameBut z h₇ h₈:=hs₈
    have up:∀c o,c≠z->h.get? c=some o->h₈.get? c=some o:=fun c o c1 e=>hs₈.extBut _ _ c1 (hs₇.extBut _ _ c1 (Heap.get?_push_of_some _ e))
    have hT₈:xl h₈ h.objs.size vs:=hs₈.extBut _ _ (Ym hzlt) (hs₇.extBut _ _ (Ym hzlt) (Heap.get?_push_size _ rfl));have hz8:h₈.objs.size=h.objs.size+1:=by rw[hs₈.1,hs₇.1,Heap.size_push]
    rw[hsz]at hz₈ hT₈ hz8;refine wpAny_pure ⟨_,rfl,?_⟩
    show Q (.ref h.objs.size) _
    rw[hsz];refine hQ h₈ hz₈ (up _ _ D.TOz hTO₅) (fun d hm => ?_) hT₈ hz8 fun c o c1 c2 c3 e=>up c o c1 (st.keep c o c1 c2 c3 e)
    obtain⟨m,hml,em⟩:=Zy hm;have em':ds[m]? = some d:=by rw[<-em];exact Zb hml
    exact(st.done m d em' hml).ext (fun o q=>up _ _ (D.iz d hm).1 q) (fun o q=>up _ _ (D.lz d hm).1 q)
structure ZSe(h0 h:Heap)(z TI TO:Addr)(ds:List Drw)(k j:Nat):Prop where
  zip:IsZip h z TI TO .ellipsis
  to:∃ts,xl h TO ts/\ts.length=ds.length
  more:∀(i:Nat) (d:Drw),ds[i]? = some d->i<j->d.xs[k]? ≠ none
  todo:∀(i:Nat) (d:Drw),ds[i]? = some d->j<=i->DrAt h d k
  keep:∀c o,c≠z->c≠TO->(∀d∈ds,c≠d.it)->h0.get? c=some o->h.get? c=some o
theorem zlm{z TI TO:Addr}{ds:List Drw}{old:List Value}{k:Nat}{Q:Fin->Shared->Prop}(hh:A.handled=none)(D:fc z TI TO ds)(hn:ds≠[])(hz:IsZip s.heap z TI TO .none)(hTI:xl s.heap TI (ds.map fun d=>.ref d.it))(hTO:xl s.heap TO old)
    (lo:old.length=ds.length) (h8:ds.length<=8) (hd:∀d∈ds,DrAt s.heap d k) (hend:∃d∈ds,d.xs[k]? = none)
    (hE:∀h' e,(∀c o,c≠z->c≠TO->(∀d∈ds,c≠d.it)->s.heap.get? c=some o->h'.get? c=some o)->(∃o,h'.get? e=some o/\o.cls=.type "StopIteration")->E (.ref e) { s with heap:=h' }) :
    wpAny (model prog w) A (Builtin.«zip.__next__» ⟨[.ref z],[]⟩) Q E s:=by
  show wpAny _ _ (field (.ref z) 2 >>= _) _ _ _
  refine wpAny_bind (wpAny_field hz rfl (x:=.bool false) rfl ?_)
  show wpAny _ _ (field (.ref z) 3 >>= _) _ _ _
  refine wpAny_bind (wpAny_field hz rfl (x:=.ref TI) rfl ?_);refine wpAny_bind (wpAny_seqItems hTI rfl ?_)
  have hne:¬(((ds.map fun d=>Value.ref d.it).toArray).isEmpty=true):=by
    simp;exact hn
  show wpAny _ _ (if ((ds.map fun d=>Value.ref d.it).toArray.isEmpty=true) then _ else _) _ _ _
  rw[if_neg hne]
  show wpAny _ _ (Builtin.SmallTypes.ownedTupleIsFree (.ref z) >>= _) _ _ _
  refine wpAny_bind ?_;unfold Builtin.SmallTypes.ownedTupleIsFree;refine wpAny_bind (wpAny_field hz rfl (x:=.none) rfl (wpAny_pure ?_));simp only[if_true];refine wpAny_bind (wpAny_rule ?_);refine wpAny_bind (wpAny_field hz rfl (x:=.ref TO) rfl ?_);refine wpAny_bind (wpAny_setField_rec hz (by simp) fun h₁ hz₁ hs₁ => ?_)
  replace hz₁:IsZip h₁ z TI TO .ellipsis:=hz₁
  refine wpAny_bind ?_;have st0:ZSe s.heap h₁ z TI TO ds k 0:=⟨hz₁,⟨old,hs₁.extBut _ _ D.TOz hTO,lo⟩,fun i d _ h=>absurd h (YH _),fun i d e _=>(hd d (Zi e)).ext (fun o q=>hs₁.extBut _ _ (D.iz d (Zi e)).1 q) (fun o q=>hs₁.extBut _ _ (D.lz d (Zi e)).1 q),fun c o c1 _ _ q=>hs₁.extBut _ _ c1 q⟩;refine wpAny_forIn_list _ (fun rest b s'=>b=(none,())/\∃j h,s'={ s with heap:=h }/\j<=ds.length/\rest=((ds.map fun d=>Value.ref d.it).zipIdx).drop j/\ZSe s.heap h z TI TO ds k j) _ ?turn ?fin _ _ ⟨rfl,0,h₁,rfl,ZE _,rfl,st0⟩
  case turn =>
    rintro⟨v,i⟩ rest b s' ⟨rfl,j,h,rfl,hj,er,st⟩
    obtain⟨ev,rfl,er2⟩:=d0 er;rw[Ze]at ev
    cases ed:ds[i]? with
    | none=>rw[ed]at ev;cases ev
    | some d =>
    rw[ed]at ev;cases ev;have hil:=(Zc.mp ed).1;have hm:=Zi ed;refine wpAny_bind (wpAny_onRaise ?_)
    show wpAny _ _ (Builtin.SmallTypes.nextOf (.ref d.it) >>= _) _ _ _
    cases ex:d.xs[k]? with
    | none =>
      refine wpAny_bind (zj0 (s:={ s with heap:=h }) hh (st.todo i d ed (Zm _)) ex fun h₂ e hs₂ he => ?_);obtain⟨oe,hoe,hce⟩:=he;have hz₂:IsZip h₂ z TI TO .ellipsis:=hs₂ _ _ (Ne.symm (D.iz d hm).1) st.zip;have hez:e≠z:=fun x=>by subst x;rw[hz₂]at hoe;cases hoe;simp at hce
      exact wpAny_setField_rec (s:={ s with heap:=h₂ }) hz₂ (by simp) fun h₃ _ hs₃=>hE h₃ e (fun c o c1 c2 c3 x=>hs₃.extBut _ _ c1 (hs₂ _ _ (c3 d hm) (st.keep c o c1 c2 c3 x))) ⟨oe,hs₃.extBut _ _ hez hoe,hce⟩
    | some x =>
      refine wpAny_bind (za9 (s:={ s with heap:=h }) (st.todo i d ed (Zm _)) ex fun h₂ hd₂ hs₂=>wpAny_pure ?_)
      replace hs₂:Heap.SameBut d.it h h₂:=hs₂
      obtain⟨ts,hts,lts⟩:=st.to;have hTO₂:xl h₂ TO ts:=hs₂.extBut _ _ (Ne.symm (D.iz d hm).2.2) hts;refine wpAny_bind (wpAny_seqItems (s:={ s with heap:=h₂ }) hTO₂ rfl ?_);refine wpAny_bind (zc1 (s:={ s with heap:=h₂ }) hTO₂ (by omega) fun h₃ hTO₃ hs₃ => ?_)
      replace hs₃:Heap.SameBut TO h₂ h₃:=hs₃
      refine wpAny_bind (wpAny_letGo (wpAny_pure ?_));have up:∀c o,c≠d.it->c≠TO->h.get? c=some o->h₃.get? c=some o:=fun c o c1 c2 e=>hs₃.extBut _ _ c2 (hs₂.extBut _ _ c1 e)
      refine⟨rfl,i+1,h₃,rfl,hil,er2,⟨up _ _ (Ne.symm (D.iz d hm).1) (Ne.symm D.TOz) st.zip,⟨_,hTO₃,by rw[List.length_set];exact lts⟩,fun m e em hmi => ?_,fun m e em hmi => ?_,fun c o c1 c2 c3 e=>up c o (c3 d hm) c2 (st.keep c o c1 c2 c3 e)⟩⟩
      . by_cases hmi':m=i
        . subst hmi'
          rw[ed]at em;cases em;rw[ex];simp
        . exact st.more m e em (by omega)
      . have hme:=Zi em
        exact(st.todo m e em (by omega)).ext (fun o q=>up _ _ (D.ii m i e d em ed (by omega)) (D.iz e hme).2.2 q) (fun o q=>up _ _ (D.li e d hme hm) (D.lz e hme).2 q)
  case fin =>
    rintro b s' ⟨rfl,j,h,rfl,hj,er,st⟩
    exfalso
    have hjl:j=ds.length:=by
      have:=congrArg List.length er;rw[Yc,List.length_zipIdx,Za,Yq]at this;omega
    subst hjl;obtain⟨d,hm,e⟩:=hend;obtain⟨m,hml,em⟩:=Zy hm;exact st.more m d (by rw[<-em];exact Zb hml) hml e
theorem bd{z TI TO:Addr}{ds:List Drw}{vs old:List Value}{k:Nat}{Q:Option Value->Shared->Prop}(D:fc z TI TO ds)(hn:ds≠[])(hz:IsZip s.heap z TI TO .none)(hTI:xl s.heap TI (ds.map fun d=>.ref d.it))(hTO:xl s.heap TO old)
    (lv:vs.length=ds.length) (lo:old.length=ds.length) (h8:ds.length<=8) (hd:∀d∈ds,DrAt s.heap d k) (hv:∀(i:Nat) (d:Drw),ds[i]? = some d->d.xs[k]? = vs[i]?)
    (hQ:∀h',IsZip h' z TI TO (rawInt s.heap.objs.size)->xl h' TO vs->(∀d∈ds,DrAt h' d (k+1))->xl h' s.heap.objs.size vs->h'.objs.size=s.heap.objs.size+1 ->
      (∀c o,c≠z->c≠TO->(∀d∈ds,c≠d.it)->s.heap.get? c=some o->h'.get? c=some o)->Q (some (.ref s.heap.objs.size)) { s with heap:=h' }) :
    wpAny (model prog w) A (pyNext (.ref z)) Q E s:=by
  have hT:s.TypeIs (.ref z) "zip" := ⟨_,hz,rfl⟩;unfold pyNext
  exact wpAny_bind (wpAny_attempt (wpAny_callSpecial?_slot (name:=Str.ofString "__next__") hT F.slot_zip_next
    (wpAny_call_entry F.slot_zip_next hT F.entry_zip_next
      (zkm D hn hz hTI hTO lv lo h8 hd hv fun h' a1 a2 a3 a4 a5 a6=>wpAny_pure (hQ h' a1 a2 a3 a4 a5 a6)) (F.args_zip_next_1 _))))
theorem ao{z TI TO:Addr}{ds:List Drw}{old:List Value}{k:Nat}{Q:Option Value->Shared->Prop}(hh:A.handled=none)(D:fc z TI TO ds)(hn:ds≠[])(hz:IsZip s.heap z TI TO .none)(hTI:xl s.heap TI (ds.map fun d=>.ref d.it))(hTO:xl s.heap TO old)
    (lo:old.length=ds.length) (h8:ds.length<=8) (hd:∀d∈ds,DrAt s.heap d k) (hend:∃d∈ds,d.xs[k]? = none)
    (hQ:∀h',(∀c o,c≠z->c≠TO->(∀d∈ds,c≠d.it)->s.heap.get? c=some o->h'.get? c=some o)->Q none { s with heap:=h' }):wpAny (model prog w) A (pyNext (.ref z)) Q E s:=by
  have hT:s.TypeIs (.ref z) "zip" := ⟨_,hz,rfl⟩;unfold pyNext
  refine wpAny_bind (wpAny_attempt (wpAny_callSpecial?_slot (name:=Str.ofString "__next__") hT F.slot_zip_next
    (wpAny_call_entry F.slot_zip_next hT F.entry_zip_next (zlm hh D hn hz hTI hTO lo h8 hd hend fun h' e hk he => ?_) (F.args_zip_next_1 _))))
  obtain⟨o,ho,hc⟩:=he;refine wpAny_bind (wpAny_isInstance (T := "StopIteration") (b:=true) ⟨o,ho,hc⟩ isSubtype_stop ?_);exact wpAny_pure (hQ _ hk)
end
def SrcAt(h:Heap)(b:Bool)(l:Addr)(xs:Array Value):Prop:=if b=true then h.IsList l xs else h.IsTuple l xs
def uf(b:Bool)(l:Addr):Obj:={ cls:=.type (if b=true then "list_iterator" else "tuple_iterator"),data:=.fields #[.ref l,.int 0 0] }
theorem SrcAt.push{h:Heap}{b:Bool}{l:Addr}{xs:Array Value}(q:SrcAt h b l xs)(o:Obj):SrcAt (h.push o) b l xs:=by
  cases b
  . obtain⟨p,e,r⟩:=(show h.IsTuple l xs from q)
    exact⟨p,Heap.get?_push_of_some _ e,r⟩
  . obtain⟨p,e,r⟩:=(show h.IsList l xs from q)
    exact⟨p,Heap.get?_push_of_some _ e,r⟩
theorem ag{prog:Program}{w:World}{A:Around}{E:Value->Shared->Prop}{s:Shared}{b:Bool}{l:Addr}{xs:Array Value}{Q:Value->Shared->Prop}(q:SrcAt s.heap b l xs)(hQ:Q (.ref s.heap.objs.size) { s with heap:=s.heap.push (uf b l) }) :
    wpAny (model prog w) A (pyIter (.ref l)) Q E s:=by
  cases b
  . exact wpAny_pyIter_tuple (show s.heap.IsTuple l xs from q) hQ
  . exact wpAny_pyIter_list (show s.heap.IsList l xs from q) hQ
theorem zf2(b1 b2:Bool)(l1 l2:Addr)(x1 x2:Array Value) :
    Meets (Builtin.«zip.__new__» ⟨[.type "zip", .ref l1,.ref l2],[]⟩) (fun _ R s=>SrcAt s.heap b1 l1 x1/\SrcAt s.heap b2 l2 x2 /\
      ∀h',h'=((((s.heap.push (uf b1 l1)).push (uf b2 l2)).push { cls:=.type "tuple", data:=.seq #[.ref s.heap.objs.size,.ref (s.heap.push (uf b1 l1)).objs.size] }).push { cls:=.type "tuple", data:=.seq #[.none,.none] }) ->
      R (.ok (.ret (.ref h'.objs.size))) { s with heap:=h'.push { cls:=.type "zip", data:=.fields #[.none,.bool false,.bool false,.ref ((s.heap.push (uf b1 l1)).push (uf b2 l2)).objs.size,.ref (((s.heap.push (uf b1 l1)).push (uf b2 l2)).push { cls:=.type "tuple", data:=.seq #[.ref s.heap.objs.size,.ref (s.heap.push (uf b1 l1)).objs.size] }).objs.size] } }) :=
  .of_wp fun prog w A R s h=>by
    obtain⟨hp,g,d,tk,os⟩:=s;obtain⟨hl1,hl2,h⟩:=h;have hsub:=sub_zip;have hL1:SrcAt (Shared.heap ⟨hp,g,d,tk,os⟩) b1 l1 x1:=hl1;have hL2:SrcAt (Shared.heap ⟨hp.push (uf b1 l1),g,d,tk,os⟩) b2 l2 x2:=SrcAt.push hl2 _
    wp_walk using ag hL1,ag hL2
    exact⟨_,rfl,h _ rfl⟩
theorem DrAt.start{h:Heap}{b:Bool}{n l:Addr}{xs:Array Value}(e:h.get? n=some (uf b l))(q:SrcAt h b l xs):DrAt h ⟨n,l,xs⟩ 0:=by
  cases b
  . obtain⟨o,e',c,n,r⟩:=(show h.IsTuple l xs from q)
    exact⟨.inr ⟨_,e,rfl,rfl⟩,o,n,e',r⟩
  . obtain⟨o,e',c,n,r⟩:=(show h.IsList l xs from q)
    exact⟨.inl ⟨_,e,rfl,rfl⟩,o,n,e',r⟩
theorem SrcAt.keeps{h h':Heap}{b:Bool}{l:Addr}{xs:Array Value}(q:SrcAt h b l xs)(k:∀c o,h.get? c=some o->h'.get? c=some o):SrcAt h' b l xs:=by
  cases b
  . obtain⟨p,e,r⟩:=(show h.IsTuple l xs from q)
    exact⟨p,k _ _ e,r⟩
  . obtain⟨p,e,r⟩:=(show h.IsList l xs from q)
    exact⟨p,k _ _ e,r⟩
section
variable{prog:Program}{w:World}{A:Around}{E:Value->Shared->Prop}{s:Shared}
theorem zgz{b1 b2:Bool}{l1 l2:Addr}{x1 x2:Array Value}{Q:Value->Shared->Prop}(hl1:SrcAt s.heap b1 l1 x1)(hl2:SrcAt s.heap b2 l2 x2)
    (h:∀h',IsZip h' (s.heap.objs.size+4) (s.heap.objs.size+2) (s.heap.objs.size+3) .none->xl h' (s.heap.objs.size+2) [.ref s.heap.objs.size,.ref (s.heap.objs.size+1)] ->
      xl h' (s.heap.objs.size+3) [.none,.none]->DrAt h' ⟨s.heap.objs.size,l1,x1⟩ 0->DrAt h' ⟨s.heap.objs.size+1,l2,x2⟩ 0 ->
      (∀c o,s.heap.get? c=some o->h'.get? c=some o)->Q (.ref (s.heap.objs.size+4)) { s with heap:=h' }) :
    wpAny (model prog w) A (call (.type "zip") [.ref l1,.ref l2]) Q E s:=by
  refine callType_new F.called_zip (by decide) (F.typeCall_zip_2 _ _) (F.newCall_zip_2 _ _) (fun obj=>F.args_object_init_3 obj _ _) F.entry_zip_new
    (zf2 b1 b2 l1 l2 x1 x2) ⟨hl1,hl2,?_⟩
  intro h0 e0;generalize e1:s.heap.push (uf b1 l1)=h1 at *;have z1:h1.objs.size=s.heap.objs.size+1:=by rw[<-e1];exact Heap.size_push ..
  generalize e2:h1.push (uf b2 l2)=h2 at *;have z2:h2.objs.size=s.heap.objs.size+2:=by rw[<-e2,Heap.size_push,z1]
  rw[z1]at e0;rw[z1,z2];generalize e4:h2.push { cls:=.type "tuple", data:=.seq #[.ref s.heap.objs.size,.ref (s.heap.objs.size+1)] }=h4 at *;have z4:h4.objs.size=s.heap.objs.size+3:=by rw[<-e4,Heap.size_push,z2]
  have z5:h0.objs.size=s.heap.objs.size+4:=by rw[e0,Heap.size_push,z4]
  rw[z4,z5];have k1:∀c o,s.heap.get? c=some o->h1.get? c=some o:=fun c o q=>by rw[<-e1];exact Heap.get?_push_of_some _ q
  have k2:∀c o,h1.get? c=some o->h2.get? c=some o:=fun c o q=>by rw[<-e2];exact Heap.get?_push_of_some _ q
  have k4:∀c o,h2.get? c=some o->h4.get? c=some o:=fun c o q=>by rw[<-e4];exact Heap.get?_push_of_some _ q
  have k5:∀c o,h4.get? c=some o->h0.get? c=some o:=fun c o q=>by rw[e0];exact Heap.get?_push_of_some _ q
  have g1:h1.get? s.heap.objs.size=some (uf b1 l1):=by rw[<-e1];exact Heap.get?_push_size _ rfl
  have g2:h2.get? (s.heap.objs.size+1)=some (uf b2 l2):=by rw[<-e2,<-z1];exact Heap.get?_push_size _ rfl
  have g4:h4.get? (s.heap.objs.size+2)=some { cls:=.type "tuple", data:=.seq #[.ref s.heap.objs.size,.ref (s.heap.objs.size+1)] }:=by rw[<-e4,<-z2];exact Heap.get?_push_size _ rfl
  have g5:h0.get? (s.heap.objs.size+3)=some { cls:=.type "tuple", data:=.seq #[.none,.none] }:=by rw[e0,<-z4];exact Heap.get?_push_size _ rfl
  generalize ezo:({ cls:=.type "zip", data:=.fields #[.none,.bool false,.bool false,.ref (s.heap.objs.size+2),.ref (s.heap.objs.size+3)] }:Obj)=zo at *;have k6:∀c o,h0.get? c=some o->(h0.push zo).get? c=some o:=fun c o q=>Heap.get?_push_of_some _ q
  have g6:(h0.push zo).get? (s.heap.objs.size+4)=some zo:=by rw[<-z5];exact Heap.get?_push_size _ (by rw[<-ezo];rfl)
  have kk:∀c o,s.heap.get? c=some o->(h0.push zo).get? c=some o:=fun c o q=>k6 _ _ (k5 _ _ (k4 _ _ (k2 _ _ (k1 _ _ q))))
  show _/\_
  have g7:IsZip (h0.push zo) (s.heap.objs.size+4) (s.heap.objs.size+2) (s.heap.objs.size+3) .none:=by
    show(h0.push zo).get? _=_
    rw[g6,<-ezo]
  refine⟨⟨_,g7,rfl⟩,h _ g7 (k6 _ _ (k5 _ _ g4)) (k6 _ _ g5) ?_ ?_ kk⟩
  . exact DrAt.start (b:=b1) (k6 _ _ (k5 _ _ (k4 _ _ (k2 _ _ g1)))) (hl1.keeps kk)
  . exact DrAt.start (b:=b2) (k6 _ _ (k5 _ _ (k4 _ _ g2))) (hl2.keeps kk)
end
end L2
namespace L2
open PySem PySem.Spec PyProof.Rows
def SqA(K:Fg)(H:Hp)(a:Addr)(xs:List V):Prop:=SqL K H a xs\/SqT K H a xs
structure rn(K:Fg)(H:Hp)(as:List Addr)(xss:List (List V)):Prop where
  len:as.length=xss.length
  at':∀(j:Nat) (a:Addr) (xs:List V),as[j]? = some a->xss[j]? = some xs->SqA K H a xs
def ItN(K:Fg)(as:List Addr):It :=
  ⟨fun i H=>∃xss,rn K H as xss/\∀xs∈xss,i<xs.length,
   fun i H v H'=>∃T vs,v=.ref T/\H T=none/\H'=upd H T (.tup vs)/\∀xss,rn K H as xss->vs.length=xss.length/\∀(j:Nat) (xs:List V),xss[j]? = some xs->xs[i]? = vs[j]?,
   fun i H=>∃xss,rn K H as xss/\∃xs∈xss,xs.length<=i⟩
def zif(z TI TO:Addr)(its ls:List Addr)(i:Nat)(h:Heap):Prop :=
  IsZip h z TI TO .none/\xl h TI (its.map fun a=>.ref a)/\(∃old,xl h TO old/\old.length=its.length)/\∀(j:Nat) (it l:Addr),its[j]? = some it->ls[j]? = some l->h.IsListIter it l i\/h.IsTupleIter it l i
structure zdl(z TI TO:Addr)(its:List Addr):Prop where
  TIz:TI≠z
  TOz:TO≠z
  TITO:TI≠TO
  iz:∀it∈its,it≠z/\it≠TI/\it≠TO
  nd:its.Nodup
section
variable{X:Cx}{pins:List (Addr×Obj)}{σ:St}{H:Hp}{s:Shared}
theorem Inv.sqA(I:Inv X pins σ H s){a:Addr}{xs:List V}(q:SqA X.K H a xs):∃us:List Value,Vals xs us/\SeqH s.heap a us.toArray:=by
  rcases q with q | q
  . obtain⟨us,r,pl,_⟩:=I.list q
    obtain⟨o,e,c,n,d⟩:=pl.isList;exact⟨us,r,o,n,e,d⟩
  . obtain⟨us,r,⟨o,e,c,n,d⟩,_⟩:=I.tuple q
    exact⟨us,r,o,n,e,d⟩
theorem Inv.sqA_inj(I:Inv X pins σ H s){a:Addr}{xs ys:List V}(q:SqA X.K H a xs)(q':SqA X.K H a ys):xs=ys:=by
  obtain⟨us,r,o,n,e,d⟩:=I.sqA q;obtain⟨us',r',o',n',e',d'⟩:=I.sqA q';rw[e]at e';cases e';rw[d]at d'
  injection d' with d1 _
  have:us=us':=by simpa using congrArg Array.toList d1
  subst this;exact r.inj r'
theorem Inv.sqA_ne(I:Inv X pins σ H s){a b:Addr}{xs:List V}(q:SqA X.K H a xs)(f:FpOk X pins H b):a≠b:=by
  rintro rfl
  have hk:∀o,X.K.lookup a=some o->False:=fun o hk=>by
    have e:X.base.get? a=some o:=I.ok.mod.kin a o hk
    rcases f.2.2.2.1 with z | z
    . exact I.ok.noex _ _ e z
    . exact absurd (Heap.lt_size (I.ok.bs a o e).1) (ZD.mpr z)
  rcases q with ((q | ⟨o,q⟩) | ⟨o,its,n,q,_⟩) | ((q | ⟨o,q⟩) | ⟨o,its,n,q,_⟩)
  . rw[f.1]at q;cases q
  . rw[f.1]at q;cases q
  . exact hk o q
  . rw[f.1]at q;cases q
  . rw[f.1]at q;cases q
  . exact hk o q
def mkDs:List Addr->List Addr->List (List Value)->List Drw
  | it::its,l::ls,u::us=>⟨it,l,u.toArray⟩::mkDs its ls us
  | _,_,_=>[]
theorem uj:∀{its ls:List Addr} {us:List (List Value)},its.length=ls.length->ls.length=us.length->∀(j:Nat) (d:Drw),(mkDs its ls us)[j]? = some d↔∃it l u,its[j]? = some it/\ls[j]? = some l/\us[j]? = some u/\d=⟨it,l,u.toArray⟩
  | [],[],[],_,_,j,d=>by simp[mkDs]
  | it::its,l::ls,u::us,h1,h2,0,d=>by
    simp only[mkDs,List.getElem?_cons_zero,Option.some.injEq]
    constructor
    . intro e;exact⟨it,l,u,rfl,rfl,rfl,e.symm⟩
    . rintro⟨a,b,c,rfl,rfl,rfl,e⟩;exact e.symm
  | it::its,l::ls,u::us,h1,h2,j+1,d=>by
    simp only[mkDs,YM];exact uj (by simpa using h1) (by simpa using h2) j d
theorem cu:∀{its ls:List Addr} {us:List (List Value)},its.length=ls.length->ls.length=us.length->(mkDs its ls us).length=its.length
  | [],[],[],_,_=>rfl
  | it::its,l::ls,u::us,h1,h2=>by
    simp only[mkDs,ZM];rw[cu (by simpa using h1) (by simpa using h2)]
theorem cg:∀{its ls:List Addr} {us:List (List Value)},its.length=ls.length->ls.length=us.length->(mkDs its ls us).map (fun d=>Value.ref d.it)=its.map fun a=>Value.ref a
  | [],[],[],_,_=>rfl
  | it::its,l::ls,u::us,h1,h2=>by
    simp only[mkDs,ZL];rw[cg (by simpa using h1) (by simpa using h2)]
theorem i7(I:Inv X pins σ H s):∀{as:List Addr} {xss:List (List V)},rn X.K H as xss->∃uss:List (List Value),as.length=uss.length/\∀(j:Nat) (a:Addr) (xs:List V) (us:List Value),as[j]? = some a->xss[j]? = some xs->uss[j]? = some us->Vals xs us/\SeqH s.heap a us.toArray
  | [],[],_=>⟨[],rfl,fun j a xs us e=>by simp at e⟩
  | a::as,xs::xss,q=>by
    obtain⟨us,r,sq⟩:=I.sqA (q.at' 0 a xs rfl rfl);obtain⟨uss,l,f⟩:=i7 I (as:=as) (xss:=xss) ⟨by simpa using q.len,fun j b ys e1 e2=>q.at' (j+1) b ys (by simpa using e1) (by simpa using e2)⟩;refine⟨us::uss,by simp[l],fun j b ys vs e1 e2 e3 => ?_⟩
    cases j with
    | zero =>
      simp at e1 e2 e3;subst e1 e2 e3;exact⟨r,sq⟩
    | succ j=>exact f j b ys vs (by simpa using e1) (by simpa using e2) (by simpa using e3)
  | [],xs::xss,q=>by simpa using q.len
  | a::as,[],q=>by simpa using q.len
theorem zhr(I:Inv X pins σ H s){as:List Addr}{xss yss:List (List V)}(q:rn X.K H as xss)(q':rn X.K H as yss):xss=yss:=by
  refine List.ext_getElem? fun j => ?_
  cases e1:xss[j]? with
  | none =>
    have:=List.getElem?_eq_none_iff.mp e1;exact(Yl (by rw[<-q'.len,q.len];exact this)).symm
  | some xs =>
    have hj:=(Zc.mp e1).1;have hj1:j<as.length:=by rw[q.len];exact hj
    have hj2:j<yss.length:=by rw[<-q'.len];exact hj1
    rw[Zb hj2,I.sqA_inj (q.at' j _ xs (Zb hj1) e1) (q'.at' j _ _ (Zb hj1) (Zb hj2))]
theorem bp(I:Inv X pins σ H s){z TI TO:Addr}{its ls:List Addr}(D:zdl z TI TO its)(hl:its.length=ls.length){i:Nat}(hf:∀b∈z::TI::TO::its,FpOk X pins H b)(st:zif z TI TO its ls i s.heap){xss:List (List V)}(q:rn X.K H ls xss)
    {uss:List (List Value)} (lu:ls.length=uss.length) (hu:∀(j:Nat) (a:Addr) (xs:List V) (us:List Value),ls[j]? = some a->xss[j]? = some xs->uss[j]? = some us->Vals xs us/\SeqH s.heap a us.toArray) :
    fc z TI TO (mkDs its ls uss)/\∀d∈mkDs its ls uss,DrAt s.heap d i:=by
  have get:∀d∈mkDs its ls uss,∃(j:Nat) (it l:Addr) (u:List Value) (xs:List V),its[j]? = some it/\ls[j]? = some l/\uss[j]? = some u/\xss[j]? = some xs/\d=⟨it,l,u.toArray⟩:=fun d hd=>by
    obtain⟨j,hj,e⟩:=Zy hd;obtain⟨it,l,u,e1,e2,e3,e4⟩:=(uj hl lu j d).mp (by rw[<-e];exact Zb hj);have hjx:j<xss.length:=by rw[<-q.len];exact(Zc.mp e2).1
    exact⟨j,it,l,u,_,e1,e2,e3,Zb hjx,e4⟩
  have at0:∀d∈mkDs its ls uss,DrAt s.heap d i:=fun d hd=>by
    obtain⟨j,it,l,u,xs,e1,e2,e3,e4,rfl⟩:=get d hd;exact⟨st.2.2.2 j it l e1 e2,(hu j l xs u e2 e4 e3).2⟩
  have sq:∀d∈mkDs its ls uss,∃xs,SqA X.K H d.l xs:=fun d hd=>by
    obtain⟨j,it,l,u,xs,e1,e2,e3,e4,rfl⟩:=get d hd;exact⟨xs,q.at' j l xs e2 e4⟩
  have itm:∀d∈mkDs its ls uss,d.it∈its:=fun d hd=>by
    obtain⟨j,it,l,u,xs,e1,e2,e3,e4,rfl⟩:=get d hd;exact Zi e1
  refine⟨⟨D.TIz,D.TOz,D.TITO,fun d hd=>D.iz _ (itm d hd),fun d hd => ?_,fun j k d e ej ek hjk => ?_,fun d e hd he => ?_⟩,at0⟩
  . obtain⟨xs,q1⟩:=sq d hd
    exact⟨I.sqA_ne q1 (hf z (by simp)),I.sqA_ne q1 (hf TO (by simp))⟩
  . obtain⟨it,l,u,a1,_,_,rfl⟩:=(uj hl lu j d).mp ej
    obtain⟨it',l',u',a1',_,_,rfl⟩:=(uj hl lu k e).mp ek;intro heq;have heq':it=it':=heq;subst heq';obtain⟨h1,g1⟩:=Zc.mp a1;obtain⟨h2,g2⟩:=Zc.mp a1';exact hjk ((Yy D.nd).mp (g1.trans g2.symm))
  . obtain⟨xs,q1⟩:=sq d hd
    exact I.sqA_ne q1 (hf e.it (by simp[itm e he]))
end
theorem zhx{P:Program}{w:World}{K:Fg}{elts:List Expr}{x1:Nat}{pos:Pos}(z TI TO:Addr)(its ls:List Addr)(D:zdl z TI TO its)(hl:its.length=ls.length)(hn:its≠[])(h8:its.length<=8) :
    Turn P w K (.Tuple elts x1 pos) (ItN K ls) (z::TI::TO::its) z (zif z TI TO its ls) where
  mem:=by simp
  obj:=fun i h st b hb=>by
    obtain⟨hz,hTI,⟨old,hTO,_⟩,hi⟩:=st;simp only[ZK]at hb
    rcases hb with rfl | rfl | rfl | hb
    . exact⟨_,hz,fun v q=>by cases q⟩
    . exact⟨_,hTI,fun v q=>by cases q⟩
    . exact⟨_,hTO,fun v q=>by cases q⟩
    . obtain⟨j,hj,e⟩:=Zy hb
      have hj2:j<ls.length:=by rw[<-hl];exact hj
      rcases hi j b _ (by rw[<-e];exact Zb hj) (Zb hj2) with ⟨o,e1,_,d1⟩ | ⟨o,e1,_,d1⟩
      . exact⟨o,e1,fun v q=>by rw[d1]at q;cases q⟩
      . exact⟨o,e1,fun v q=>by rw[d1]at q;cases q⟩
  keep:=fun i h h' st k=>by
    obtain⟨hz,hTI,⟨old,hTO,lo⟩,hi⟩:=st;refine⟨k z (by simp) _ hz,k TI (by simp) _ hTI,⟨old,k TO (by simp) _ hTO,lo⟩,fun j it l e1 e2 => ?_⟩;have hm:it∈z::TI::TO::its:=by simp[Zi e1]
    rcases hi j it l e1 e2 with ⟨o,a,r⟩ | ⟨o,a,r⟩
    . exact .inl ⟨o,k it hm o a,r⟩
    . exact .inr ⟨o,k it hm o a,r⟩
  item:=by
    intro X hP hw hK hc i pins s σ H E I hf st hg;subst hP hw hK;obtain⟨xss,q,hlen⟩:=hg;obtain⟨uss,lu,hu⟩:=i7 I q;obtain⟨A,at0⟩:=bp I D hl hf st q lu hu;obtain⟨hz,hTI,⟨old,hTO,lo⟩,hi⟩:=id st;have dl:=cu hl lu
    -- the values of this turn
    have hvs:∃(vs:List V) (ws:List Value),Vals vs ws/\vs.length=xss.length/\ws.length=xss.length/\(∀(j:Nat) (xs:List V),xss[j]? = some xs->xs[i]? = vs[j]?)/\∀(j:Nat) (us:List Value),uss[j]? = some us->us[i]? = ws[j]? := by
      have go:∀(ys:List (List V)) (us:List (List Value)),ys.length=us.length->(∀xs∈ys,i<xs.length)->(∀(j:Nat) (xs:List V) (u:List Value),ys[j]? = some xs->us[j]? = some u->Vals xs u) ->
          ∃(vs:List V) (ws:List Value),Vals vs ws/\vs.length=ys.length/\ws.length=ys.length/\(∀(j:Nat) (xs:List V),ys[j]? = some xs->xs[i]? = vs[j]?)/\∀(j:Nat) (u:List Value),us[j]? = some u->u[i]? = ws[j]? := by
        intro ys
        induction ys with
        | nil =>
          intro us hl _ _
          cases us with
          | nil=>exact⟨[],[],.nil,rfl,rfl,fun j xs e=>by simp at e,fun j xs e=>by simp at e⟩
          | cons _ _=>simp at hl
        | cons y ys ih =>
          intro us hl h1 h2
          cases us with
          | nil=>simp at hl
          | cons u us =>
            obtain⟨vs,ws,r,l1,l2,g1,g2⟩:=ih us (by simpa using hl) (fun xs hx=>h1 xs (Zv _ hx)) fun j xs v e1 e2=>h2 (j+1) xs v (by simpa using e1) (by simpa using e2)
            have hy:i<y.length:=h1 y ZA;have r0:=h2 0 y u rfl rfl;obtain⟨x,hx,rx⟩:=r0.get (Zb hy);refine⟨y[i]::vs,x::ws,.cons rx r,by simp[l1],by simp[l2],fun j xs e => ?_,fun j v e => ?_⟩
            . cases j with
              | zero =>
                simp at e;subst e;simp[hy]
              | succ j=>simpa using g1 j xs (by simpa using e)
            . cases j with
              | zero =>
                simp at e;subst e
                simpa using hx
              | succ j=>simpa using g2 j v (by simpa using e)
      refine go xss uss (by rw[<-q.len,lu]) hlen fun j xs u e1 e2 => ?_
      have hj:j<ls.length:=by rw[lu];exact(Zc.mp e2).1
      exact(hu j _ xs u (Zb hj) e1 e2).1
    obtain⟨vs,ws,rvs,lv,lw,gv,gw⟩:=hvs;refine bd (vs:=ws) (old:=old) A (fun e=>hn (by have:=congrArg List.length e;rw[dl]at this;exact Yr.mp this)) hz (by rw[cg hl lu];exact hTI) hTO (by rw[lw,dl,hl,q.len]) (by rw[lo,dl]) (by rw[dl];exact h8) at0 (fun j d ed => ?_) fun h' a1 a2 a3 a4 a5 hk => ?_
    . obtain⟨it,l,u,e1,e2,e3,rfl⟩:=(uj hl lu j d).mp ed
      show u.toArray[i]? = _
      rw[List.getElem?_toArray];exact gw j u e3
    have ltT:∀{c o},s.heap.get? c=some o->c≠s.heap.objs.size:=fun e=>Zs (Heap.lt_size e)
    refine⟨_,rfl,wpAny_letOwnedTupleGo_zip (s:={ s with heap:=h' }) a1 fun h'' b1 sb => ?_⟩;have hTz:s.heap.objs.size≠z:=Ne.symm (ltT hz)
    have itz:∀d∈mkDs its ls uss,d.it∈its:=fun d hd=>by
      obtain⟨j,hj,e⟩:=Zy hd;obtain⟨it,l,u,e1,_,_,e4⟩:=(uj hl lu j d).mp (by rw[<-e];exact Zb hj);rw[e4];exact Zi e1
    have kk:∀c o,c∉z::TO::its->s.heap.get? c=some o->h''.get? c=some o:=fun c o hc e=>by
      simp only[ZK,not_or]at hc;exact sb.extBut c o hc.1 (hk c o hc.1 hc.2.1 (fun d hd z=>hc.2.2 (z▸itz d hd)) e)
    have hf4:∀b∈z::TO::its,FpOk X pins H b:=fun b hb=>hf b (by
      simp only[ZK]at hb ⊢
      rcases hb with h | h | h
      . exact .inl h
      . exact .inr (.inr (.inl h))
      . exact .inr (.inr (.inr h)))
    have hvl:vs.length<=sizeLine:=Zd (show vs.length<=8 by rw[lv,<-q.len,<-hl];exact h8) (by decide)
    have I1:Inv X pins σ (upd H s.heap.objs.size (.tup vs)) { s with heap:=h'',toks:=s.toks }:=I.turnedLaid (ch:=z::TO::its) hf4 (fun b o hb e=>kk b o hb e) (Zm _) ⟨hvl,ws,rvs,by
        have e:=sb.extBut _ _ hTz a4
        exact⟨_,e,rfl,_,rfl,rfl⟩⟩
    refine⟨.ref s.heap.objs.size,_,I1,rfl,⟨s.heap.objs.size,vs,rfl,I.hok.fresh (Zm _),rfl,fun yss q' => ?_⟩,?_,fun b hb => ?_⟩
    . rw[zhr I q' q]
      exact⟨lv,gv⟩
    . refine⟨b1,sb.extBut _ _ D.TIz (hk _ _ D.TIz D.TITO (fun d hd=>Ne.symm (A.iz d hd).2.1) hTI),⟨ws,sb.extBut _ _ D.TOz a2,by rw[lw,<-q.len,hl]⟩,fun j it l e1 e2 => ?_⟩
      have hj3:j<uss.length:=by rw[<-lu];exact(Zc.mp e2).1
      have hm:(⟨it,l,(uss[j]).toArray⟩:Drw)∈mkDs its ls uss:=Zi ((uj hl lu j _).mpr ⟨it,l,_,e1,e2,Zb hj3,rfl⟩);have hne:it≠z:=(A.iz _ hm).1
      rcases (a3 _ hm).1 with ⟨o,a,r⟩ | ⟨o,a,r⟩
      . exact .inl ⟨o,sb.extBut _ _ hne a,r⟩
      . exact .inr ⟨o,sb.extBut _ _ hne a,r⟩
    . have hb':=(hf b hb).1
      rw[zp ?_]
      . exact hb'
      . simp only[ZK]at hb
        rcases hb with rfl | rfl | rfl | hb
        . exact ltT hz
        . exact ltT hTI
        . exact ltT hTO
        . obtain⟨j,hj,e⟩:=Zy hb
          have hj2:j<ls.length:=by rw[<-hl];exact hj
          rcases hi j b _ (by rw[<-e];exact Zb hj) (Zb hj2) with ⟨o,e1,_⟩ | ⟨o,e1,_⟩ <;> exact ltT e1
  done:=by
    intro X hP hw hK hc i pins s σ H E I hf st hg;subst hP hw hK;obtain⟨xss,q,xs,hxm,hle⟩:=hg;obtain⟨uss,lu,hu⟩:=i7 I q;obtain⟨A,at0⟩:=bp I D hl hf st q lu hu;obtain⟨hz,hTI,⟨old,hTO,lo⟩,hi⟩:=id st;have dl:=cu hl lu
    have itz:∀d∈mkDs its ls uss,d.it∈its:=fun d hd=>by
      obtain⟨j,hj,e⟩:=Zy hd;obtain⟨it,l,u,e1,_,_,e4⟩:=(uj hl lu j d).mp (by rw[<-e];exact Zb hj);rw[e4];exact Zi e1
    refine ao (old:=old) (I.ok.hd hc) A (fun e=>hn (by have:=congrArg List.length e;rw[dl]at this;exact Yr.mp this)) hz (by rw[cg hl lu];exact hTI) hTO (by rw[lo,dl]) (by rw[dl];exact h8) at0 ?_ fun h' hk=>⟨rfl,?_⟩
    . obtain⟨j,hj,e⟩:=Zy hxm
      have ex:xss[j]? = some xs:=by rw[<-e];exact Zb hj
      have hj1:j<ls.length:=by rw[q.len];exact hj
      have hj2:j<its.length:=by rw[hl];exact hj1
      have hj3:j<uss.length:=by rw[<-lu];exact hj1
      refine⟨⟨its[j],ls[j],(uss[j]).toArray⟩,Zi ((uj hl lu j _).mpr ⟨_,_,_,Zb hj2,Zb hj1,Zb hj3,rfl⟩),?_⟩;have r:=(hu j _ xs _ (Zb hj1) ex (Zb hj3)).1;have rl:=r.length
      show(uss[j]).toArray[i]? = none
      rw[List.getElem?_toArray];exact Yl (by omega)
    have nch:∀b u,H b=some u->b∉z::TO::its:=fun b u e q=>by
      have:=(hf b (by
        simp only[ZK]at q ⊢
        rcases q with h | h | h
        . exact .inl h
        . exact .inr (.inr (.inl h))
        . exact .inr (.inr (.inr h)))).1
      rw[this]at e;cases e
    have k:∀b o,b∉z::TO::its->s.heap.get? b=some o->h'.get? b=some o:=fun b o hb e=>by
      simp only[ZK,not_or]at hb;exact hk b o hb.1 hb.2.1 (fun d hd z=>hb.2.2 (z▸itz d hd)) e
    have hf4:∀b∈z::TO::its,FpOk X pins H b:=fun b hb=>hf b (by
      simp only[ZK]at hb ⊢
      rcases hb with h | h | h
      . exact .inl h
      . exact .inr (.inr (.inl h))
      . exact .inr (.inr (.inr h)))
    exact I.step (g':=s.gens) (d':=s.drawn) (t':=s.toks) (ch:=z::TO::its) (fun b hb=>by
        obtain⟨f0,f1,f2,f3,f4,f5⟩:=hf4 b hb
        exact⟨f3,f1,f4,f5⟩) (fun b o _ _ hc e _=>k b o hc e) (fun b o _ _ hc e _=>⟨o.slots,k b o hc e⟩) (fun b o _ e n=>n)
      (fun b o hc e=>⟨o,k b o hc e⟩) (fun b xs e=>e) (fun b ob u e=>e) (fun b ps e=>⟨#[],by rw[e];simp⟩) (fun m hm=>by
        obtain⟨ob,es,ep,ho,r⟩:=hm
        exact⟨ob,es,ep,k _ ob (fun q=>(hf4 _ q).2.1 rfl) ho,r⟩) (fun b u e=>(I.hok b u e).stay (fun c v hc q=>k c v (by
          rcases hc with r | r
          . rw[r];exact nch b u e
          . exact nch c _ r) q) (fun _ q=>q) fun _ _ q=>q) I.bare
  self:=fun _ _ _ _ _ st h=>wpAny_pyIter_zip st.1 h
theorem Inv.src{X:Cx}{pins:List (Addr×Obj)}{σ:St}{H:Hp}{s:Shared}(I:Inv X pins σ H s){a:Addr}{xs:List V}(q:SqA X.K H a xs):∃b us,SrcAt s.heap b a us:=by
  rcases q with q | q
  . obtain⟨us,r,pl,_⟩:=I.list q
    exact⟨true,_,pl.isList⟩
  . obtain⟨us,r,pl,_⟩:=I.tuple q
    exact⟨false,_,pl⟩
def iZip2(K:Fg)(ta:TA):TI:=fun σ H R=>ta σ H fun vs H1=>∃a b,vs=[.ref a,.ref b]/\(∃xss,rn K H1 [a,b] xss)/\R (ItN K [a,b]) H1
theorem e_zip2{K:Fg}{ta:TA}{σ:St}{H:Hp}{R:It->Hp->Prop}:iZip2 K ta σ H R=ta σ H fun vs H1=>∃a b,vs=[.ref a,.ref b]/\(∃xss,rn K H1 [a,b] xss)/\R (ItN K [a,b]) H1:=rfl
theorem zl2 {X:Cx} {a b:Expr} {ta:TA} {p pos tpos:Pos} {elts:List Expr} {x1:Nat} (hg:Gl X "zip") (hm:X.mg "zip" = none) (ha:PA X [a,b] ta)
    (hs:starEach [a,b] X.env=(false,eval a X.env)::starEach [b] X.env:=by rfl) (hs2:(backTo pos (starEach [b] X.env)).any (·.1)=false:=by rfl) :
    PI X (.Tuple elts x1 tpos) (.Call (.Name "zip" p) [a,b] [] pos) (iZip2 X.K ta):=by
  intro pins s σ H R I h;refine Call_ (ud I hg hm zh1 (PyProof.Rows.callWith_type1 (thn (ha pos pins s σ H _ I h) fun us s1 ⟨vs,H1,I1,r1,q1⟩ => ?_) hs hs2));obtain⟨a,b,e,⟨xss,qa⟩,q⟩:=q1;subst e;obtain⟨u,v,rfl,ru,rv⟩:=Vals.two r1;cases ru;cases rv
  match xss,qa with
  | [xa,xb],qa =>
  obtain⟨k1,y1,s1'⟩:=I1.src (qa.at' 0 a xa rfl rfl);obtain⟨k2,y2,s2'⟩:=I1.src (qa.at' 1 b xb rfl rfl);refine zgz s1' s2' fun h' z1 z2 z3 z4 z5 kp => ?_
  refine wpAny_pyIter_zip (s:={ s1 with heap:=h' }) z1 ?_;have I2:Inv X pins σ H1 { s1 with heap:=h' }:=I1.kept (t':=s1.toks) kp
  have D:zdl (s1.heap.objs.size+4) (s1.heap.objs.size+2) (s1.heap.objs.size+3) [s1.heap.objs.size,s1.heap.objs.size+1]:=by
    refine⟨(by show(_:Nat)≠_;omega),(by show(_:Nat)≠_;omega),(by show(_:Nat)≠_;omega),fun it hi => ?_,?_⟩
    . simp only[ZK,Zx,or_false]at hi
      rcases hi with rfl | rfl <;> refine⟨?_,?_,?_⟩ <;> (show(_:Nat)≠_;omega)
    . simp
  refine⟨s1.heap.objs.size+4,(s1.heap.objs.size+4)::(s1.heap.objs.size+2)::(s1.heap.objs.size+3)::[s1.heap.objs.size,s1.heap.objs.size+1],_,_,H1,rfl,I2,zhx _ _ _ [s1.heap.objs.size,s1.heap.objs.size+1] [a,b] D rfl (by simp) (by simp),⟨z1,z2,⟨_,z3,rfl⟩,fun j it l e1 e2 => ?_⟩,fun e he => ?_,q⟩
  . match j with
    | 0=>simp at e1 e2;subst e1 e2;exact z4.1
    | 1=>simp at e1 e2;subst e1 e2;exact z5.1
    | j+2=>simp at e1
  have hle:s1.heap.objs.size<=e:=by
    simp only[ZK,Zx,or_false]at he
    rcases he with h | h | h | h | h <;> (rw[h];omega)
  exact I1.fpOk hle (I1.hok.fresh hle)
section
variable{σ:St}{k:Nat}{g:TG}{tt:TT}{te:TE}{H1:Hp}{Fin:List V->Hp->Prop}
theorem zh2{K:Fg}{as:List Addr}{xss:List (List V)}{n:Nat}(Pv:Nat->List V->Hp->Prop)(h0:Pv 0 [] H1)(hn:∀xs∈xss,n<=xs.length)(he:∃xs∈xss,xs.length=n)(hz:∀i ys H,i<=n->Pv i ys H->ys.length<=sizeLine/\rn K H as xss)
    (hs:∀i vs ys H T,i<n->vs.length=xss.length->(∀(j:Nat) (xs:List V),xss[j]? = some xs->xs[i]? = vs[j]?)->H T=none->Pv i ys H->g (.ref T) (List.replicate k none++σ) (upd H T (.tup vs)) fun σ2 H2=>σ2.drop k=σ/\tt σ2 H2 fun b H3=>if b=true then te σ2 H3 fun v H4=>Pv (i+1) (ys++[v]) H4 else Pv (i+1) ys H3)
    (hd:∀ys H,Pv n ys H->Fin ys H):sk (ItN K as) σ k g tt te H1 Fin:=by
  refine⟨fun i m ys H=>m=n-i/\i<=n/\Pv i ys H,⟨n,by simp,ZE _,h0⟩,?_⟩
  rintro i m ys H ⟨rfl,hi,p⟩
  obtain⟨q0,qa⟩:=hz i ys H hi p;refine⟨q0,?_⟩
  by_cases hlt:i<n
  . refine .inr ⟨⟨xss,qa,fun xs hx=>Zh hlt (hn xs hx)⟩,Pv (i+1),fun ys' H' p'=>⟨n-(i+1),by omega,rfl,hlt,p'⟩,fun x H' y => ?_⟩
    obtain⟨T,vs,rfl,hT,rfl,hy⟩:=y;obtain⟨l,f⟩:=hy xss qa;exact hs i vs ys _ T hlt l f hT p
  . have e:i=n:=by omega
    subst e;obtain⟨xs,hx,el⟩:=he;exact .inl ⟨⟨xss,qa,xs,hx,by omega⟩,hd ys H p⟩
end
end L2
namespace L2
open PySem PySem.Spec PyProof.Rows
theorem jp:entryFor table "dict.update.loop" = some Builtin.«dict.update.loop» := entryFor_of_tree (by kernel_rfl)
theorem ue:plainId "dict.update.loop" = true:=by decide +kernel
theorem zax:typeLookup (.type "list") "keys" = pure none:=by rw[typeLookup_type,builtinLookup_eq_fast];kernel_rfl
theorem ox{prog:Program}{w:World}{A:Around}{E:Value->Shared->Prop}{s:Shared}{a:Addr}{o:Obj}{xs:Array Value}{k:Nat}{Q:Option Value->Shared->Prop}
    (hx:s.heap.get? a=some o) (hc:o.cls=.type "list") (hdat:o.data=.seq xs k) (hd:o.dict=none) (hA:A.handled=none)
    (h:∀h' tk,(∀b o,s.heap.get? b=some o->h'.get? b=some o)->Q none { s with heap:=h',toks:=tk }) :
    wpAny (model prog w) A (getAttr? (.ref a) "keys") Q E s:=by
  obtain⟨c,dct,dat,sl⟩:=o;simp only at hc hdat hd;subst hc hdat hd;obtain⟨hp,g,d,tk,os⟩:=s;have hT:∀tk',(⟨hp,g,d,tk',os⟩:Shared).TypeIs (.ref a) "list" := fun _=>⟨_,hx,rfl⟩
  have f1:=sub_AttributeError;have f3:=F.slot_list_getattribute.lookup;have f4:=F.slot_list_getattribute.bind (.ref a);have f5:=am_list_getattr_none;unfold getAttr? getAttrBy? getAttrBy
  repeat (any_goals (first | assumption | exact hT _ | ((with_reducible show wpAny _ _ (call (Value.builtin "list.__getattribute__") _ _) _ _ _);refine call_meets F.slot_list_getattribute (hT _) am_entry_list_getattribute (F.args_list_getattribute_2 _ _) (meets_getattribute_miss_list a xs k sl "keys" _ zax (by decide) (by decide)) ⟨hx,hA,fun h' tk' e hx' => ?_⟩) | wp_step))
  obtain⟨t',u',he⟩:=hx'.there
  show wpAny _ _ (getattributeRaised _ _ _ _ _ _ _) _ _ _
  unfold getattributeRaised
  repeat (any_goals (first | assumption | wp_step))
  exact h _ _ hx'.keeps
section
variable{prog:Program}{w:World}{K:Type}[DecidableEq K]{knd:KeyKind prog w K}
def accH(ps:List (List K×Addr×Value))(i:Nat):List (List K×Addr×Value):=(ps.take i).foldl (fun xs p=>storedH xs p.1 p.2.1 p.2.2) []
theorem zd3{G:List K->Addr->Prop}{xs:List (List K×Addr×Value)}{k:List K}{b:Addr}{v:Value}(h:∀x∈xs,G x.1 x.2.1)(hk:G k b):∀x∈storedH xs k b v,G x.1 x.2.1:=by
  unfold storedH
  split
  . intro x hx
    obtain⟨y,hy,rfl⟩:=Zp.mp hx;unfold putAt
    split
    . exact h y hy
    . exact h y hy
  . intro x hx
    rcases ZH.mp hx with hx | hx
    . exact h x hx
    . rw[ZC.mp hx];exact hk
theorem f9{ps:List (List K×Addr×Value)}{i:Nat}{p:List K×Addr×Value}(h:ps[i]? = some p):accH ps (i+1)=storedH (accH ps i) p.1 p.2.1 p.2.2:=by
  unfold accH;rw[Zq,h];simp
theorem zdz(xs:List (List K×Addr×Value))(k:List K)(b:Addr)(v:Value):(storedH xs k b v).length<=xs.length+1:=by
  unfold storedH
  split
  . rw[Za];omega
  . rw[Zo];simp
theorem zdj(ps:List (List K×Addr×Value)):∀i,i<=ps.length->(accH ps i).length<=i
  | 0,_=>Zm _
  | i+1,h=>by
    have e:ps[i]? = some ps[i]:=Zb h;rw[f9 e];exact Zd (zdz _ _ _ _) (YA (zdj ps i (by omega)))
structure za0(knd:KeyKind prog w K)(h:Heap)(items:Array Value)(ps:List (List K×Addr×Value)):Prop where
  len:items.size=ps.length
  at':∀(i:Nat) (p:List K×Addr×Value),ps[i]? = some p->∃T,items[i]? = some (.ref T)/\h.IsTuple T #[.ref p.2.1,p.2.2]/\(tupleKind knd).is h p.1 p.2.1
theorem isK{h h':Heap}{ks:List K}{a:Addr}(q:(tupleKind knd).is h ks a)(k:∀o,h.get? a=some o->h'.get? a=some o):(tupleKind knd).is h' ks a:=by
  obtain⟨o,its,n,e,r⟩:=q;exact⟨o,its,n,k o e,r⟩
theorem gq{h h':Heap}{d:Addr}{xs:List (List K×Addr×Value)}(q:h.DictOfH (tupleKind knd) d xs)(hd:∀o,h.get? d=some o->h'.get? d=some o)(hx:∀x∈xs,(tupleKind knd).is h' x.1 x.2.1):h'.DictOfH (tupleKind knd) d xs:=by
  obtain⟨o,es,ep,ho,hc,hdat,he,_,hn⟩:=q;exact⟨o,es,ep,hd o ho,hc,hdat,he,hx,hn⟩
theorem zjl{A:Around}{hB:Heap}{g:Array GenState}{dr:Drawn}{os:OsState}{d it l:Addr}{items:Array Value}{ps:List (List K×Addr×Value)}{R:Result->Shared->Prop}(hA:A.handled=none)(hu:(tupleKind knd).room A.in1)(hl:hB.IsList l items)(hP:za0 knd hB items ps)(hd:hB.objs.size<=d)(hi:hB.objs.size<=it)(hdi:d≠it)(hz:ps.length<=sizeLine)
    (hR:∀h' tk,(∀c o,hB.get? c=some o->h'.get? c=some o)->h'.DictOfH (tupleKind knd) d (accH ps ps.length)->R (.ok (.ret .none)) ⟨h',g,dr,tk,os⟩) :
    ∀(k i:Nat) (h:Heap) (tk:Nat),ps.length-i=k->i<=ps.length->(∀c o,hB.get? c=some o->h.get? c=some o)->h.IsListIter it l i->h.DictOfH (tupleKind knd) d (accH ps i)->(∀x∈accH ps i,(tupleKind knd).is hB x.1 x.2.1) ->
      codeAny (model prog w) A (.builtin "dict.update.loop" ⟨[.ref d,.ref it,rawInt i,.none],[]⟩) R ⟨h,g,dr,tk,os⟩:=by
  have ltB:∀{c o},hB.get? c=some o->c<hB.objs.size:=fun e=>Heap.lt_size e
  intro k
  induction k with
  | zero =>
    intro i h tk hk hi' kp hit hD hG;have e:i=ps.length:=by omega
    subst e;refine codeAny_builtin jp ?_;rw[Around.under_plainId ue _];have hl':h.IsList l items:=hl.at fun o e=>kp _ o e
    show wpAny _ A.in1 (pyNext (.ref it) >>= _) _ _ _
    refine wpAny_bind (wpAny_pyNext_list_end (s:=⟨h,g,dr,tk,os⟩) hA hit hl' (by rw[YO];rw[hP.len];exact Zm _) fun h' ext => ?_)
    replace ext:Heap.ExtBut it h h':=ext
    have kp':∀c o,hB.get? c=some o->h'.get? c=some o:=fun c o e=>ext c o (Zs (Zh (ltB e) hi)) (kp c o e)
    show wpAny _ _ (Builtin.Dict.addKeywords d [] >>= _) _ _ _
    exact wpAny_bind (wpAny_pure (wpAny_pure (hR h' tk kp' (gq hD (fun o e=>ext d o hdi e) fun x hx=>isK (hG x hx) fun o e=>kp' _ o e))))
  | succ k ih =>
    intro i h tk hk hi' kp hit hD hG;have hlt:i<ps.length:=by omega
    have ep:ps[i]? = some ps[i]:=Zb hlt;obtain⟨T,eT,hT,hK⟩:=hP.at' i _ ep;refine codeAny_builtin jp ?_;rw[Around.under_plainId ue _];have hl':h.IsList l items:=hl.at fun o e=>kp _ o e
    show wpAny _ A.in1 (pyNext (.ref it) >>= _) _ _ _
    refine wpAny_bind (wpAny_pyNext_list_item (s:=⟨h,g,dr,tk,os⟩) hit hl' eT fun h1 hit1 sb => ?_)
    replace sb:Heap.SameBut it h h1:=sb
    have kp1:∀c o,hB.get? c=some o->h1.get? c=some o:=fun c o e=>sb.extBut c o (Zs (Zh (ltB e) hi)) (kp c o e)
    have hD1:h1.DictOfH (tupleKind knd) d (accH ps i):=gq hD (fun o e=>sb.extBut d o hdi e) fun x hx=>isK (hG x hx) fun o e=>kp1 _ o e
    obtain⟨oT,eoT,cT,nT,dT⟩:=hT;have hTs:(⟨h1,g,dr,tk,os⟩:Shared).TypeIs (.ref T) "tuple" := ⟨oT,kp1 _ _ eoT,cT⟩
    show wpAny _ A.in1 (holding [Value.ref T] _ >>= _) _ _ _
    refine wpAny_bind (wpAny_holding ?_);refine wpAny_bind (wpAny_tryCatch ?_);unfold Builtin.Dict.pairItems;refine wpAny_bind (wpAny_typeOf hTs ?_);rw[if_pos (by decide)];refine wpAny_bind (wpAny_seqItems (s:=⟨h1,g,dr,tk,os⟩) (kp1 _ _ eoT) dT ?_);refine wpAny_pure ?_
    show wpAny _ A.in1 (holding [Value.ref ps[i].2.1,ps[i].2.2] (dictSet d (Value.ref ps[i].2.1) ps[i].2.2)) _ _ _
    refine wpAny_holding ?_;refine wpAny_dictSet_heap (s:=⟨h1,g,dr,tk,os⟩) hu (isK hK fun o e=>kp1 _ o e) hD1 (fun h2 hD2 sb2 => ?_) (Zd (zdj ps i hi') (by omega))
    replace sb2:Heap.SameBut d h1 h2:=sb2
    have kp2:∀c o,hB.get? c=some o->h2.get? c=some o:=fun c o e=>sb2.extBut c o (Zs (Zh (ltB e) hd)) (kp1 c o e)
    rw[<-f9 ep]at hD2;refine wpAny_pure ⟨plainId_quiet ue _,?_⟩
    have:=ih (i+1) h2 (tk+(tupleKind knd).draws ps[i].1) (by omega) hlt kp2 (hit1.extBut sb2.extBut (Ne.symm hdi)) hD2 (by
      rw[f9 ep]
      exact zd3 (G:=fun k b=>(tupleKind knd).is hB k b) hG hK)
    exact this
theorem bo {A:Around} {E:Value->Shared->Prop} {s:Shared} {l:Addr} {o:Obj} {items:Array Value} {n:Nat} {ps:List (List K×Addr×Value)} {Q:Value->Shared->Prop} (hA:A.handled=none) (hu:A.units+8<cLine) (ho:s.heap.get? l=some o) (hc:o.cls=.type "list") (hdat:o.data=.seq items n) (hdn:o.dict=none) (hP:za0 knd s.heap items ps) (hz:ps.length<=sizeLine)
    (h:∀h' tk,(∀c o,s.heap.get? c=some o->h'.get? c=some o)->h'.DictOfH (tupleKind knd) s.heap.objs.size (accH ps ps.length)->Q (.ref s.heap.objs.size) { s with heap:=h',toks:=tk }) :
    wpAny (model prog w) A (call (.type "dict") [.ref l]) Q E s:=by
  refine callType_codes (Q₁:=fun obj s₁=>obj=.ref s.heap.objs.size/\s₁={ s with heap:=s.heap.push { cls:=.type "dict", data:=.dict #[] } }) F.kt_called_dict (F.kt_typeCall_dict_1 _) F.entry_dict_init (kt_code_dict_new _ ⟨rfl,rfl⟩) ?_
  rintro obj s₁ ⟨rfl,rfl⟩
  have hnew:(s.heap.push { cls:=.type "dict", data:=.dict #[] }).DictOfH (tupleKind knd) s.heap.objs.size []:=Heap.DictOfH.new s.heap;have ho':(s.heap.push { cls:=.type "dict", data:=.dict #[] }).get? l=some o:=Heap.get?_push_of_some _ ho;refine⟨⟨_,Heap.get?_push_size _ rfl,rfl⟩,F.args_dict_init_2 _ _,?_⟩;unfold Builtin.«dict.__init__»;refine wpAny_bind ?_;unfold Builtin.Dict.selfAndRest;refine wpAny_bind (wpAny_notOrdered_dict ⟨_,Heap.get?_push_size _ rfl,rfl⟩ ?_)
  show wpAny _ _ (pure (s.heap.objs.size,[Value.ref l])) _ _ _
  refine wpAny_pure ?_
  show wpAny _ _ (Builtin.Dict.updateFrom "dict.__init__" s.heap.objs.size (.ref l) [] .none) _ _ _
  unfold Builtin.Dict.updateFrom;refine wpAny_bind (wpAny_typeOf ⟨_,ho',hc⟩ ?_);rw[if_pos (by decide)];refine wpAny_bind (ox ho' hc hdat hdn hA fun h1 tk1 k1 => ?_);rw[if_pos (by decide)];refine wpAny_bind (wpAny_rule ?_);have hl1:h1.IsList l items:=⟨o,k1 _ _ ho',hc,n,hdat⟩;have hd1:h1.get? s.heap.objs.size=some { cls:=.type "dict", data:=.dict #[] }:=k1 _ _ (Heap.get?_push_size _ rfl);have hlt:s.heap.objs.size<h1.objs.size:=Heap.lt_size hd1;refine wpAny_bind (wpAny_pyIter_list (s:=⟨h1,s.gens,s.drawn,tk1,s.os⟩) hl1 (wpAny_pure ⟨plainId_quiet ue _,?_⟩));have kp:∀c o,s.heap.get? c=some o->(h1.push { cls:=.type "list_iterator", data:=.fields #[.ref l,.int 0 0] }).get? c=some o:=fun c o e=>Heap.get?_push_of_some _ (k1 _ _ (Heap.get?_push_of_some _ e))
  refine zjl (knd:=knd) (A:=A.in1) (hB:=s.heap) (g:=s.gens) (dr:=s.drawn) (os:=s.os) (l:=l) (items:=items) (ps:=ps) hA (tupleKind_room_in1 (A:=A.in1) (by show A.units+1+1<cLine;omega)) ⟨o,ho,hc,n,hdat⟩ hP (Zm _) (YI hlt) (Zs hlt) hz
    (fun h' tk kp' hD=>⟨rfl,h h' tk kp' hD⟩) ps.length 0 _ tk1 (by omega) (ZE _) kp ⟨_,Heap.get?_push_size _ rfl,rfl,rfl⟩ (gq hnew (fun o e=>Heap.get?_push_of_some _ (k1 _ _ e)) fun x hx=>by cases hx) (fun x hx=>by cases hx)
end
end L2
namespace L2
open PySem PySem.Spec PyProof.Rows
def kr(kvs:List (List Key×V)):List (List Key×V):=kvs.foldl (fun acc kv=>putK acc kv.1 kv.2) []
structure qr(H:Hp)(Ts:List Addr)(kvs:List (List Key×V)):Prop where
  len:Ts.length=kvs.length
  at':∀(i:Nat) (T:Addr) (kv:List Key×V),Ts[i]? = some T->kvs[i]? = some kv->∃b,H T=some (.tup [.ref b,kv.2])/\H b=some (.tup (kv.1.map kV))
def zh6(xs:List V)(H:Hp)(Q:VK):Prop:=∃(l:Addr) (Ts:List Addr) (kvs:List (List Key×V)),xs=[.ref l]/\H l=some (.lst (Ts.map V.ref))/\qr H Ts kvs/\∀p,H p=none->Q (.ref p) (upd H p (.dT (kr kvs)))
theorem zlw{xs:List V}{H:Hp}{Q:VK}:zh6 xs H Q=∃(l:Addr) (Ts:List Addr) (kvs:List (List Key×V)),xs=[.ref l]/\H l=some (.lst (Ts.map V.ref))/\qr H Ts kvs/\∀p,H p=none->Q (.ref p) (upd H p (.dT (kr kvs))):=rfl
section
variable{X:Cx}{pins:List (Addr×Obj)}{σ:St}{H:Hp}{s:Shared}
theorem zcq(I:Inv X pins σ H s):∀{Ts:List Addr} {kvs:List (List Key×V)} {us:List Value},qr H Ts kvs->Vals (Ts.map V.ref) us->∃ps:List (List Key×Addr×Value),za0 (yq X.prog X.w) s.heap us.toArray ps/\KT H kvs ps
  | [],[],us,q,r=>by
    cases r;exact⟨[],⟨rfl,fun i p e=>by simp at e⟩,.nil⟩
  | T::Ts,kv::kvs,us,q,r=>by
    rw[ZL]at r
    cases r with
    | @cons _ u _ us r0 r1 =>
      obtain⟨ps,P,k⟩:=zcq I (Ts:=Ts) (kvs:=kvs) ⟨by simpa using q.len,fun i T kv e1 e2=>q.at' (i+1) T kv (by simpa using e1) (by simpa using e2)⟩ r1;obtain⟨b,hT,hb⟩:=q.at' 0 T kv rfl rfl;obtain⟨z,its,rr,hI⟩:=(show ObjOk X.prog X.w H s.heap T (.tup [.ref b,kv.2]) from I.hok T _ hT);obtain⟨u1,u2,rfl,ru1,ru2⟩:=Vals.two rr;obtain rfl:u1=Value.ref b:=ru1;obtain rfl:u=Value.ref T:=r0;refine⟨(kv.1,b,u2)::ps,⟨by simp[<-P.len],fun i p e => ?_⟩,.cons ⟨rfl,hb,ru2⟩ k⟩
      cases i with
      | zero =>
        simp at e;subst e;obtain⟨o,e1,c1,n1,d1,_⟩:=hI;exact⟨T,by simp,⟨o,e1,c1,n1,d1⟩,ib I.hok hb⟩
      | succ i =>
        obtain⟨T',a1,a2,a3⟩:=P.at' i p (by simpa using e);exact⟨T',by simpa using a1,a2,a3⟩
  | [],kv::kvs,us,q,r=>by simpa using q.len
  | T::Ts,[],us,q,r=>by simpa using q.len
theorem kt_acc{kvs:List (List Key×V)}{ps:List (List Key×Addr×Value)}(k:KT H kvs ps):KT H (kr kvs) (accH ps ps.length):=by
  have go:∀(l:List (List Key×V)) (m:List (List Key×Addr×Value)) (a:List (List Key×V)) (b:List (List Key×Addr×Value)),KT H l m->KT H a b->KT H (l.foldl (fun acc kv=>putK acc kv.1 kv.2) a) (m.foldl (fun xs p=>storedH xs p.1 p.2.1 p.2.2) b):=by
    intro l m a b q
    induction q generalizing a b with
    | nil=>intro z;exact z
    | @cons p q ps qs h t ih =>
      intro z;obtain⟨h1,h2,h3⟩:=h;refine ih _ _ ?_
      show KT H (putK a p.1 p.2) (storedH b q.1 q.2.1 q.2.2)
      rw[<-h1];exact z.put p.1 h2 h3
  unfold accH;rw[Zt];exact go _ _ _ _ k .nil
theorem zgu(kvs:List (List Key×V)):(kr kvs).length<=kvs.length:=by
  have go:∀(l a:List (List Key×V)),(l.foldl (fun acc kv=>putK acc kv.1 kv.2) a).length<=a.length+l.length:=by
    intro l
    induction l with
    | nil=>intro a;exact Zm _
    | cons p l ih =>
      intro a;have h1:=ih (putK a p.1 p.2);have h2:=jz a p.1 p.2;simp only[YX,ZM];omega
  have:=go kvs []
  simpa[kr] using this
theorem zjk{kvs:List (List Key×V)}(h:(kvs.map (·.1)).Nodup):kr kvs=kvs:=by
  have go:∀(l a:List (List Key×V)),((a++l).map (·.1)).Nodup->l.foldl (fun acc kv=>putK acc kv.1 kv.2) a=a++l:=by
    intro l
    induction l with
    | nil=>intro a _;simp
    | cons p l ih =>
      intro a hn
      have hno:valV a p.1=none:=by
        cases e:valV a p.1 with
        | none=>rfl
        | some v =>
          exfalso
          have hm:=da e;rw[Zn,Yo]at hn;exact hn.2.2 _ hm _ (by simp) rfl
      rw[YX,kc _ hno,ih _ (by simpa using hn)];simp
  exact go kvs [] (by simpa using h)
theorem zgf(hc:X.calm=true)(hu:X.A.units+8<cLine):ve X (.type "dict") zh6:=by
  intro pins s σ H xs us Q I r h;obtain⟨l,Ts,kvs,rfl,hl,hP,q⟩:=h;obtain⟨u,rfl,ru⟩:=tz r;obtain rfl:u=Value.ref l:=ru;obtain⟨its,rv,pl,hz⟩:=I.list (SqL.of hl);obtain⟨ps,P,k⟩:=zcq I hP rv;obtain⟨o,n,e,c,d,dat⟩:=id pl;have hps:ps.length=kvs.length:=(Paired.length k).symm;have hkl:kvs.length<=sizeLine:=by rw[Za,hP.len]at hz;exact hz
  refine bo (knd:=yq X.prog X.w) (I.ok.hd hc) hu e c dat d P (by omega) fun h' tk kp hD => ?_
  have hn:H s.heap.objs.size=none:=I.hok.fresh (Zm _);refine⟨.ref s.heap.objs.size,upd H s.heap.objs.size (.dT (kr kvs)),I.laid (t':=tk) (fun b u e=>kp b u e) (Zm _) ?_,rfl,q _ hn⟩;obtain⟨ob,es,ep,g1,g2,g3,g4,_,g6⟩:=hD;have hb:=I.big;refine⟨Zd (zgu kvs) hkl,?_,accH ps ps.length,(kt_acc k).keeps fun b ys e => ?_,ob,es,ep,g1,g2,g3,g4,g6⟩
  . exact beq_eq_false_iff_ne.mpr (Ym hb)
  . rw[zp (fun z=>by rw[z,hn]at e;cases e)]
    exact e
end
end L2
namespace L2
open PySem
theorem hu11{A:Around}{k:Nat}(hr:Room k A):A.units+8<cLine:=by have:=hu9 hr;omega
end L2
namespace L2
open PySem PySem.Spec PyProof.Rows
section
variable{X:Cx}{pins:List (Addr×Obj)}{σ:St}{H:Hp}{k:Nat}{f:Addr}{fd:FuncData}{ps:List Str}{sp:Sp}
theorem zim(kf:Nat->Int){l I0 S:Addr}{xs:List V}{R:Result->Shared->Prop}(hc:X.calm=true)(F:FnOk X.prog X.w X.K X.mg X.base CX0 k f fd ps sp)(hb:Binds X.K fd ps [])(hr:Room k X.A.in1)
    (hlI:l≠I0) (hlS:l≠S) (hSI:S≠I0) (hl:SqL X.K H l xs) (fS:FpOk X pins H S) (fI:FpOk X pins H I0)
    (turn:∀i x,xs[i]? = some x->sp [x] H (fun v H'=>v=.int (kf i)/\H'=H) E0)
    (hR:∀i x u s',xs[i]? = some x->RelV x u->(∀j,j<xs.length->kf j<=kf i/\(j<i->kf j<kf i))->Inv X pins σ H s'->R (.ok (.ret u)) s') :
    ∀(r j i:Nat) (s:Shared) (x:V) (vb:Value) (tb:Tok) (c:Nat),xs.length-(j+1)=r->j+1<=xs.length->Inv X pins σ H s->s.heap.get? S=some (seqObj "list" #[vb,.int (kf i) tb] c) ->
      s.heap.IsListIter I0 l (j+1)->xs[i]? = some x->RelV x vb->i<=j->(∀j',j'<=j->kf j'<=kf i/\(j'<i->kf j'<kf i)) ->
      codeAny (model X.prog X.w) X.A (.builtin "max.loop" ⟨[.ref I0,.ref f,.ref S],[]⟩) R s:=by
  have hname:(toString "max" ++ toString ".loop" : String) = "max.loop" := by decide
  intro r
  induction r with
  | zero =>
    intro j i s x vb tb c hr' hj I hS hit hx rx hij hbest;have hin:j+1=xs.length:=by omega
    obtain⟨its,rv,pl,hz⟩:=I.list hl;have hlen:=rv.length;have W:=Walks.list (prog:=X.prog) (w:=X.w) (A:=X.A.in1) (I.ok.hd hc) I0 l hlI its.toArray;refine codeAny_builtin PySem.F.entry_max_loop ?_;rw[Around.under_plainId PySem.F.plain_max_loop _]
    show wpAny _ X.A.in1 (seqItems? (.ref S) >>= _) _ _ _
    refine wpAny_bind (wpAny_seqItems hS rfl ?_)
    show wpAny _ X.A.in1 (tryCatch (pyNext (.ref I0)) _ >>= _) _ _ _
    refine wpAny_bind (wpAny_tryCatch (W.done _ _ _ ⟨by rw[Zr,<-hlen,<-hin];exact hit,pl.isList⟩ fun h' tk' hk' => ?_));have I1:Inv X pins σ H { s with heap:=h',toks:=tk' }:=I.turned1 fI fun b o hb e=>hk' b o (by simpa using hb) e
    have hS':=hk' S _ (by simpa using hSI) hS;have s1:=Heap.SameBut.update h' S (Obj.mapSeq fun _=>(#[]:Array Value))
    show wpAny _ X.A.in1 (updateSeq S (fun _ => #[]) >>= _) _ _ _
    refine wpAny_bind ?_;refine wpAny_updateSeq hS' rfl (wpAny_bind (wpAny_letGo (wpAny_pure ?_)));exact hR i x vb _ hx rx (fun j' hj'=>hbest j' (by omega)) (I1.turned1 (t':=tk') fS fun b o hb e=>(s1.2 b hb).trans e)
  | succ r ih =>
    intro j i s x vb tb c hr' hj I hS hit hx rx hij hbest;have hlt:j+1<xs.length:=by omega
    obtain⟨its,rv,pl,hz⟩:=I.list hl;have hlen:=rv.length;have W:=Walks.list (prog:=X.prog) (w:=X.w) (A:=X.A.in1) (I.ok.hd hc) I0 l hlI its.toArray;refine codeAny_builtin PySem.F.entry_max_loop ?_;rw[Around.under_plainId PySem.F.plain_max_loop _]
    show wpAny _ X.A.in1 (seqItems? (.ref S) >>= _) _ _ _
    refine wpAny_bind (wpAny_seqItems hS rfl ?_)
    show wpAny _ X.A.in1 (tryCatch (pyNext (.ref I0)) _ >>= _) _ _ _
    refine wpAny_bind (wpAny_tryCatch (W.item (j+1) _ _ _ (by rw[Zr,<-hlen];exact hlt) ⟨hit,pl.isList⟩ fun v h' tk' hP hst' hk' => ?_));have hv:its[j+1]? = some v:=by simpa using hP
    have ey:xs[j+1]? = some xs[j+1]:=by simp[hlt]
    obtain⟨v',hv',ry⟩:=rv.get ey;rw[hv]at hv';cases hv';have I1:Inv X pins σ H { s with heap:=h',toks:=tk' }:=I.turned1 fI fun b o hb e=>hk' b o (by simpa using hb) e
    have hS':=hk' S _ (by simpa using hSI) hS;obtain⟨oI',hoI',hoc,hod⟩:=id hst'.1
    show wpAny _ X.A.in1 (tryCatch (holding [v] (call (.ref f) [v])) _ >>= _) _ _ _
    refine wpAny_bind (wpAny_tryCatch (wpAny_holding (i6 (fp:=[S,I0]) F hb hr I1 (fun b hb => ?_) (fun b hb => ?_) ry (turn (j+1) _ ey) fun t2 s2 I2 kp => ?_)))
    . simp only[ZK,Zx,or_false]at hb
      rcases hb with rfl | rfl
      . exact fS
      . exact fI
    . simp only[ZK,Zx,or_false]at hb
      rcases hb with rfl | rfl
      . exact⟨_,hS',fun v q=>by cases q⟩
      . exact⟨oI',hoI',fun v q=>by rw[hod]at q;cases q⟩
    have nS2:=kp S (by simp) _ hS';have nI2:=kp I0 (by simp) _ hoI';have hit2:s2.heap.IsListIter I0 l (j+1+1):=⟨oI',nI2,hoc,hod⟩
    show wpAny _ X.A.in1 (tryCatch (holding [v,.int (kf (j+1)) t2] (richCompare .Gt (.int (kf (j+1)) t2) (.int (kf i) tb) >>= _)) _ >>= _) _ _ _
    refine wpAny_bind (wpAny_tryCatch (wpAny_holding (wpAny_bind (CmpOf.ints_gt (prog:=X.prog) (w:=X.w) (A:=X.A.in1) (P:=fun i v=>∃t,v=.int (kf i) t) kf (fun i v h=>h) (j+1) i _ _ _ _ _ ⟨t2,rfl⟩ ⟨tb,rfl⟩ ?_))));refine wpAny_bind (wpAny_holding (wpAny_truthy_bool ?_));refine wpAny_bind (wpAny_letGo (wpAny_pure ?_))
    by_cases hb':kf (j+1) > kf i
    . have s1:=Heap.SameBut.update s2.heap S (Obj.mapSeq fun _ => #[v,.int (kf (j+1)) t2])
      obtain⟨c2,hc2⟩:∃c2,(s2.heap.update S (Obj.mapSeq fun _ => #[v,.int (kf (j+1)) t2])).get? S=some (seqObj "list" #[v,.int (kf (j+1)) t2] c2):=⟨_,get?_update_seq nS2 fun _ => #[v,.int (kf (j+1)) t2]⟩;simp only[hb',decide_true,if_true];refine wpAny_bind ?_;refine wpAny_updateSeq nS2 rfl (wpAny_bind (wpAny_letGo ?_));rw[hname];refine wpAny_pure ⟨plainId_quiet PySem.F.plain_max_loop _,ih (j+1) (j+1) _ _ v t2 c2 (by omega) hlt (I2.turned1 (t':=s2.toks) fS fun b o hb e=>(s1.2 b hb).trans e) hc2 ⟨oI',(s1.2 I0 hSI.symm).trans nI2,hoc,hod⟩ ey ry (Zm _) fun j' hj' => ?_⟩
      by_cases e:j'=j+1
      . subst e
        exact⟨by omega,fun _=>by omega⟩
      . have hb1:=hbest j' (by omega)
        have hb2:=hb1.1;exact⟨by omega,fun _=>by omega⟩
    . simp only[hb',decide_false,Bool.false_eq_true,if_false]
      refine wpAny_bind (wpAny_letGo ?_);rw[hname];refine wpAny_pure ⟨plainId_quiet PySem.F.plain_max_loop _,ih (j+1) i s2 x vb tb c (by omega) hlt I2 nS2 hit2 hx rx (by omega) fun j' hj' => ?_⟩
      by_cases e:j'=j+1
      . subst e
        exact⟨by omega,fun _=>by omega⟩
      . exact hbest j' (by omega)
theorem zj5(kf:Nat->Int){s:Shared}{l:Addr}{xs:List V}{Q:VK}{E:Value->Shared->Prop}(hc:X.calm=true)(F:FnOk X.prog X.w X.K X.mg X.base CX0 k f fd ps sp)(hb:Binds X.K fd ps [])(hr:Room k X.A.in1)
    (I:Inv X pins σ H s) (hl:SqL X.K H l xs) (hne:0<xs.length)
    (turn:∀i x,xs[i]? = some x->sp [x] H (fun v H'=>v=.int (kf i)/\H'=H) E0)
    (hQ:∀i x,xs[i]? = some x->(∀j,j<xs.length->kf j<=kf i/\(j<i->kf j<kf i))->Q x H) :
    wpAny (model X.prog X.w) X.A (call (.builtin "max") [.ref l] [(Str.ofString "key", .ref f)]) (EP X pins σ Q) E s:=by
  have hname:(toString "max" ++ toString ".loop" : String) = "max.loop" := by decide
  obtain⟨its,rv,pl,hz⟩:=I.list hl;have hlen:=rv.length;have hls:=pl.isList;obtain⟨ol,hol,_⟩:=id hls;have hll:l<s.heap.objs.size:=Heap.lt_size hol;refine kmk_tree PySem.F.kind_max PySem.F.plain_max PySem.F.entry_max (kmk_max_key _ _) ?_
  show wpAny _ X.A.in1 (Builtin.Builtins.bindParams "max" ["key", "default"] 0 ⟨[],[(Str.ofString "key", .ref f)]⟩ >>= _) _ _ s
  refine wpAny_bind (wpAny_of_eq (show Builtin.Builtins.bindParams "max" ["key", "default"] 0 ⟨[],[(Str.ofString "key", .ref f)]⟩=pure [some (.ref f),none] from rfl) ?_);refine wpAny_bind (wpAny_pure ?_);refine wpAny_bind (wpAny_pyIter_list hls ?_);refine wpAny_bind (wpAny_newList ?_ (ZE _));rw[hname];generalize hP:s.heap.push { cls:=.type "list_iterator", data:=.fields #[.ref l,.int 0 0] }=HP;have hS:HP.objs.size=s.heap.objs.size+1:=by rw[<-hP];exact size_push' ..
  have hlI:l≠s.heap.objs.size:=Zs hll;have hSI:HP.objs.size≠s.heap.objs.size:=by rw[hS];exact Ym (Yz _)
  have hlS:l≠HP.objs.size:=by rw[hS];exact Zs (Yv hll)
  refine wpAny_pure ⟨plainId_quiet PySem.F.plain_max_loop _,?_⟩;have old:∀b o,s.heap.get? b=some o->(HP.push (seqObj "list" #[] 0)).get? b=some o:=fun b o e=>Heap.get?_push_of_some _ (by rw[<-hP];exact Heap.get?_push_of_some _ e)
  have I0:Inv X pins σ H { s with heap:=HP.push (seqObj "list" #[] 0),toks:=s.toks }:=I.kept old
  have gI:(HP.push (seqObj "list" #[] 0)).get? s.heap.objs.size=some { cls:=.type "list_iterator", data:=.fields #[.ref l,.int 0 0] } :=
    Heap.get?_push_of_some _ (by rw[<-hP];exact Heap.get?_push_size _ rfl)
  have gS:(HP.push (seqObj "list" #[] 0)).get? HP.objs.size=some (seqObj "list" #[] 0):=Heap.get?_push_size _ rfl;have fI:FpOk X pins H s.heap.objs.size:=I.fpOk (Zm _) (I.hok.fresh (Zm _));have fS:FpOk X pins H HP.objs.size:=I.fpOk (by rw[hS];exact YC _) (I.hok.fresh (by rw[hS];exact YC _));have W:=Walks.list (prog:=X.prog) (w:=X.w) (A:=X.A.in1) (I.ok.hd hc) s.heap.objs.size l hlI its.toArray;refine codeAny_builtin PySem.F.entry_max_loop ?_;rw[Around.under_plainId PySem.F.plain_max_loop _]
  show wpAny _ X.A.in1 (seqItems? (.ref _) >>= _) _ _ _
  refine wpAny_bind (wpAny_seqItems gS rfl ?_)
  show wpAny _ X.A.in1 (tryCatch (pyNext (.ref s.heap.objs.size)) _ >>= _) _ _ _
  have hlist:(HP.push (seqObj "list" #[] 0)).IsList l its.toArray:=by
    obtain⟨o,e,r⟩:=hls;exact⟨o,old l o e,r⟩
  refine wpAny_bind (wpAny_tryCatch (W.item 0 _ _ _ (by rw[Zr,<-hlen];exact hne) ⟨⟨_,gI,rfl,rfl⟩,hlist⟩ fun v h' tk' hP' hst' hk' => ?_));have hv:its[0]? = some v:=by simpa using hP'
  have ey:xs[0]? = some xs[0]:=by simp[hne]
  obtain⟨v',hv',ry⟩:=rv.get ey;rw[hv]at hv';cases hv';have I1:Inv X pins σ H { s with heap:=h',toks:=tk' }:=I0.turned1 fI fun b o hb e=>hk' b o (by simpa using hb) e
  have hS':=hk' HP.objs.size _ (by simpa using hSI) gS;obtain⟨oI',hoI',hoc,hod⟩:=id hst'.1
  show wpAny _ X.A.in1 (tryCatch (holding [v] (call (.ref f) [v])) _ >>= _) _ _ _
  refine wpAny_bind (wpAny_tryCatch (wpAny_holding (i6 (fp:=[HP.objs.size,s.heap.objs.size]) F hb hr I1 (fun b hb => ?_) (fun b hb => ?_) ry (turn 0 _ ey) fun t2 s2 I2 kp => ?_)))
  . simp only[ZK,Zx,or_false]at hb
    rcases hb with rfl | rfl
    . exact fS
    . exact fI
  . simp only[ZK,Zx,or_false]at hb
    rcases hb with rfl | rfl
    . exact⟨_,hS',fun v q=>by cases q⟩
    . exact⟨oI',hoI',fun v q=>by rw[hod]at q;cases q⟩
  have nS2:=kp HP.objs.size (by simp) _ hS';have nI2:=kp s.heap.objs.size (by simp) _ hoI';have s1:=Heap.SameBut.update s2.heap HP.objs.size (Obj.mapSeq fun _ => #[v,.int (kf 0) t2]);obtain⟨c2,hc2⟩:∃c2,(s2.heap.update HP.objs.size (Obj.mapSeq fun _ => #[v,.int (kf 0) t2])).get? HP.objs.size=some (seqObj "list" #[v,.int (kf 0) t2] c2):=⟨_,get?_update_seq nS2 fun _ => #[v,.int (kf 0) t2]⟩
  show wpAny _ X.A.in1 (updateSeq HP.objs.size (fun _ => #[v,.int (kf 0) t2]) >>= _) _ _ _
  refine wpAny_bind ?_;refine wpAny_updateSeq nS2 rfl ?_;rw[hname];refine wpAny_pure ⟨plainId_quiet PySem.F.plain_max_loop _,zim kf hc F hb hr hlI hlS hSI hl fS fI turn (fun i x u s' h1 h2 h3 h4=>⟨x,H,h4,h2,hQ i x h1 h3⟩) _ 0 0 _ _ v t2 c2 rfl hne (I2.turned1 (t':=s2.toks) fS fun b o hb e=>(s1.2 b hb).trans e) hc2 ⟨oI',(s1.2 _ hSI.symm).trans nI2,hoc,hod⟩ ey ry (Zm _) fun j' hj' => ?_⟩;have e:j'=0:=by omega
  subst e;exact⟨by omega,fun _=>by omega⟩
def tMaxK(K:Fg)(sp:Sp)(ta:TA):TE:=fun σ H Q=>ta σ H fun vs H1=>∃(l:Addr) (xs:List V) (kf:Nat->Int),vs=[.ref l]/\SqL K H1 l xs/\0<xs.length /\
  (∀i x,xs[i]? = some x->sp [x] H1 (fun v H'=>v=.int (kf i)/\H'=H1) E0)/\∀i x,xs[i]? = some x->(∀j,j<xs.length->kf j<=kf i/\(j<i->kf j<kf i))->Q x H1
theorem e_maxK{K:Fg}{ta:TA}{Q:VK}:tMaxK K sp ta σ H Q=ta σ H fun vs H1=>∃(l:Addr) (xs:List V) (kf:Nat->Int),vs=[.ref l]/\SqL K H1 l xs/\0<xs.length /\
  (∀i x,xs[i]? = some x->sp [x] H1 (fun v H'=>v=.int (kf i)/\H'=H1) E0)/\∀i x,xs[i]? = some x->(∀j,j<xs.length->kf j<=kf i/\(j<i->kf j<kf i))->Q x H1:=rfl
theorem zml {y:Str} {e:Expr} {t:TA} {p p2 pos kpos:Pos} (F:FnAt X.prog X.w X.K X.mg X.base y k ps sp) (hr:Room (k+1) X.A) (hc:X.calm=true) (hgm:Gl X "max") (hm:X.mg "max" = none) (hg:Gl X y) (ha:PA X [e] t)
    (hdb:(y==("__debug__" : Str))=false:=by decide)
    (he:backTo pos (starEach [e] X.env)=(false,eval e X.env)::backTo pos (starEach [] X.env):=by rfl) (hpl:(backTo pos (starEach [e] X.env)).any (·.1)=false:=by rfl) :
    PE X (.Call (.Name "max" p) [e] [⟨some (Str.ofString "key"),.Name y p2,kpos⟩] pos) (tMaxK X.K sp t):=by
  intro pins s σ H Q I h;obtain⟨f,fd,hmy,hk,hb,G⟩:=F.ex;refine wpAny_Call_Name_kw (ud I hgm hm zcg ?_);refine PyProof.Rows.callWith_kw (thn (ha pos pins s σ H _ I h) fun us s1 ⟨vs,H1,I1,r1,q1⟩ => ?_) he hpl rfl rfl;obtain⟨l,xs,kf,ev,hl,hne,turn,q⟩:=q1;subst ev;obtain⟨u,rfl,ru⟩:=Vals.one r1;cases ru;refine thn ((zfl (nm:=some (Str.ofString "key")) (kpos:=kpos) (zas (v:=.ref f) hg hmy rfl hdb) zi6) pos pins s1 σ H1 (fun zs H2=>zs=[.ref f]/\H2=H1) I1 ⟨rfl,rfl⟩) fun ws s2 ⟨zs,H2,I2,rz,ez,eh⟩ => ?_
  subst ez eh;obtain⟨w1,rfl,rw1⟩:=Vals.one rz;cases rw1;exact zj5 kf hc G hb hr.in1 I2 hl hne turn q
end
end L2
namespace L2
open PySem PySem.Spec PyProof.Rows
section
variable{X:Cx}
theorem dj{κ:Type}[DecidableEq κ]:∀{kvs:List (κ×V)} {k:κ} {v:V},(kvs.map (·.1)).Nodup->(k,v)∈kvs->valV kvs k=some v
  | [],_,_,_,h=>by cases h
  | p::r,k,v,hn,h=>by
    rw[ZL,ZZ]at hn
    rcases ZK.mp h with e | h
    . subst e
      exact pc rfl
    . have hne:¬p.1=k:=fun e=>hn.1 (by rw[e];exact Zp.mpr ⟨(k,v),h,rfl⟩)
      rw[u7 hne];exact dj hn.2 h
end
end L2
namespace L2
open PySem PySem.Spec PyProof.Rows
section
variable{X:Cx}
end
end L2
namespace L2
open PySem PySem.Spec PyProof.Rows
section
variable{X:Cx}{pins:List (Addr×Obj)}{σ:St}{H2:Hp}{s₂:Shared}{scope:Scope}{ts N2:List Str}{cl:List (Str×Addr)}{C D:Addr}{fp:List Addr}
end
end L2
namespace L2
open PySem PySem.Spec PyProof.Rows
theorem e_dg1{td ty:TE}{σ:St}{H:Hp}{Q:VK}:zin td ty σ H Q=td σ H fun x H1=>∃a,x=.ref a/\IsD H1 a/\ty σ H1 fun y H2=>∃o,DGet H2 a y o/\Q (o.getD .non) H2:=rfl
end L2
namespace L2
open PySem PySem.Spec PyProof.Rows
section
variable{X:Cx}
end
end L2
namespace L2
open PySem PySem.Spec PyProof.Rows
section
variable{M:Model}{A:Around}{E:Value->Shared->Prop}{s:Shared}
end
section
variable{X:Cx}{pins:List (Addr×Obj)}{σ:St}{H:Hp}{s:Shared}
end
section
variable{X:Cx}{pins:List (Addr×Obj)}{σ:St}{H2:Hp}{s₂:Shared}{scope:Scope}{ts N2:List Str}{cl:List (Str×Addr)}{C D:Addr}{fp:List Addr}
end
end L2
namespace L2
open PySem PySem.Spec PyProof.Rows
section
variable{X:Cx}
end
end L2
namespace L2
open PySem PySem.Spec PyProof.Rows
end L2
namespace L2
open PySem PySem.Spec PyProof.Rows
end L2
namespace L2
open PySem PySem.Spec PyProof.Rows
section
variable{X:Cx}
end
section
variable{a b c d t e u:TS}{tc:TT}{D:Ends}{σ:L2.St}{H:Hp}
theorem hide1(h:∀T:TS,T=t->tSeq a T D σ H):tSeq a t D σ H:=h t rfl
theorem zgj(h:∀T:TS,T=t->tSeq a (tSeq b T) D σ H):tSeq a (tSeq b t) D σ H:=h t rfl
theorem hide3(h:∀T:TS,T=t->tSeq a (tSeq b (tSeq c T)) D σ H):tSeq a (tSeq b (tSeq c t)) D σ H:=h t rfl
theorem hideL(h:∀T U:TS,T=t->U=u->tSeq (tIfS tc T e) U D σ H):tSeq (tIfS tc t e) u D σ H:=h t u rfl rfl
end
end L2
namespace L2
open PySem PySem.Spec PyProof.Rows
section
variable{P:Program}{w:World}{A:Around}{E:Value->Shared->Prop}{s:Shared}
def RawAt(h:Heap)(d:Addr)(es:Array DictEntry)(ep:Nat):Prop:=∃o,h.get? d=some o/\o.ExactDict/\o.data=.dict es ep
theorem RawAt.ty{d:Addr}{es:Array DictEntry}{ep:Nat}(x:RawAt s.heap d es ep):s.TypeIs (.ref d) "dict" := let ⟨o,ho,hc,_⟩:=x;⟨o,ho,hc.1⟩
theorem RawAt.mv{h h':Heap}{d:Addr}{es:Array DictEntry}{ep:Nat}(x:RawAt h d es ep)(k:∀o,h.get? d=some o->h'.get? d=some o):RawAt h' d es ep:=let ⟨o,ho,r⟩:=x;⟨o,k _ ho,r⟩
theorem cv{d:Addr}{es:Array DictEntry}{ep:Nat}{Q:Value->Shared->Prop}(hd:(d==sysModules)=false)(hm:RawAt s.heap d es ep)
    (hQ:Q (.ref s.heap.objs.size) { s with heap:=s.heap.push { cls:=.type "dict_keyiterator", data:=.fields #[.ref d,.int 0 0,.int es.size 0,.int ep 0] } }) :
    wpAny (model P w) A (pyIter (.ref d)) Q E s:=by
  obtain⟨o,ho,hc,hdat⟩:=id hm;refine wpAny_pyIter_slot hm.ty F.slot_dict_iter (wpAny_call_entry F.slot_dict_iter hm.ty F.entry_dict_iter ?_ (F.args_dict_iter_1 _));unfold Builtin.«dict.__iter__»;refine wpAny_bind ?_;unfold Builtin.Dict.dictSlotNone;refine wpAny_bind (wpAny_notOrdered_dict hm.ty ?_)
  show wpAny _ _ (pure (Value.ref d)) _ _ s
  refine wpAny_pure ?_
  show wpAny _ _ (Builtin.Dict.showsAll d >>= _) _ _ s
  unfold Builtin.Dict.showsAll;rw[if_neg (by rw[hd];exact Bool.false_ne_true)];refine wpAny_bind (wpAny_pure (wpAny_bind (wpAny_dictEntries ho hdat (wpAny_bind (wpAny_dictEpoch ho hdat ?_)))));refine wpAny_bind (wpAny_newObj_type (wpAny_pure ⟨_,rfl, "dict_keyiterator", _,⟨_,Heap.get?_push_size _ rfl,rfl⟩,F.slot_dict_keyiterator_next.lookup,?_⟩))
  simpa[rawInt] using hQ
theorem bg{it d:Addr}{i ep:Nat}{es:Array DictEntry}{Q:Option Value->Shared->Prop}(hit:s.heap.IsKeyIter it d i es.size ep)(hm:RawAt s.heap d es ep)(hi:i<es.size)
    (hQ:∀h',h'.IsKeyIter it d (i+1) es.size ep->Heap.SameBut it s.heap h'->Q (some es[i].key) { s with heap:=h' }):wpAny (model P w) A (pyNext (.ref it)) Q E s:=by
  obtain⟨o,ho,hc,hd⟩:=id hit;obtain⟨od,hod,hcd,hdd⟩:=id hm;have hown:Builtin.Dict_items.ownsTuple "dict_keyiterator" = false:=by decide
  unfold pyNext
  refine wpAny_bind (wpAny_attempt (wpAny_callSpecial?_slot (name:=Str.ofString "__next__") hit.typeIs F.slot_dict_keyiterator_next
    (wpAny_call_entry F.slot_dict_keyiterator_next hit.typeIs F.entry_dict_keyiterator_next ?_ (F.args_dict_keyiterator_next_1 _))))
  refine wpAny_bind (wpAny_pure (wpAny_bind (wpAny_bind ?_)))
  first | refine wpAny_bind (wpAny_typeNameOfWhole_keyiter hit.typeIs (wpAny_pure ?_)) | refine wpAny_bind (wpAny_typeNameOf_keyiter hit.typeIs (wpAny_pure ?_))
  refine wpAny_bind (wpAny_fieldsOf ho hd ?_);simp only[hown,Bool.false_eq_true,if_false]
  show wpAny _ _ (if (Value.ref d==Value.none)=true then _ else _) _ _ s
  rw[if_neg (show ¬((Value.ref d==Value.none)=true) from Bool.false_ne_true)];refine wpAny_bind (wpAny_pure (wpAny_bind (wpAny_dictEntries hod hdd ?_)));rw[if_neg (by simp)];refine wpAny_bind (wpAny_pure (wpAny_bind (wpAny_dictEpoch hod hdd ?_)));rw[if_neg (by simp)];refine wpAny_pure ?_;simp only[show ¬((i:Int)<0) from by omega,if_false,Zw,Array.getElem?_eq_getElem hi];refine wpAny_bind ?_
  first | refine wpAny_bind (wpAny_typeNameOfWhole_keyiter hit.typeIs (wpAny_pure ?_)) | refine wpAny_bind (wpAny_typeNameOf_keyiter hit.typeIs (wpAny_pure ?_))
  refine wpAny_bind (wpAny_isOneOf_keyiter hit.typeIs ?_)
  show wpAny _ _ (setField (.ref it) 1 (rawInt ((i:Int)+1)) >>= _) _ _ s
  refine wpAny_bind (wpAny_setField ho hd (by simp) ?_)
  have hit':(s.heap.update it (Obj.mapFields (·.setIfInBounds 1 (rawInt ((i:Int)+1))))).IsKeyIter it d (i+1) es.size ep :=
    ⟨_,Heap.get?_update_self _ ho (Obj.isFreed_of_fields (Obj.data_mapFields hd _)),(Obj.cls_mapFields ..).trans hc,by rw[Obj.data_mapFields hd];simp[rawInt]⟩
  refine wpAny_bind (wpAny_holding (wpAny_bind (wpAny_isOneOf_keyiter (s:={ s with heap:=s.heap.update it (Obj.mapFields (·.setIfInBounds 1 (rawInt ((i:Int)+1)))) }) hit'.typeIs ?_)))
  show wpAny _ _ (pure es[i].key) _ _ _
  exact wpAny_pure (wpAny_pure ⟨_,rfl,wpAny_pure (hQ _ hit' (Heap.SameBut.update ..))⟩)
theorem zaj{it d:Addr}{ep:Nat}{es:Array DictEntry}{Q:Option Value->Shared->Prop}(hh:A.handled=none)(hit:s.heap.IsKeyIter it d es.size es.size ep)(hm:RawAt s.heap d es ep)
    (hQ:∀h',Heap.ExtBut it s.heap h'->Q none { s with heap:=h' }):wpAny (model P w) A (pyNext (.ref it)) Q E s:=by
  obtain⟨o,ho,hc,hd⟩:=id hit;obtain⟨od,hod,hcd,hdd⟩:=id hm;have hown:Builtin.Dict_items.ownsTuple "dict_keyiterator" = false:=by decide
  unfold pyNext
  refine wpAny_bind (wpAny_attempt (wpAny_callSpecial?_slot (name:=Str.ofString "__next__") hit.typeIs F.slot_dict_keyiterator_next
    (wpAny_call_entry F.slot_dict_keyiterator_next hit.typeIs F.entry_dict_keyiterator_next ?_ (F.args_dict_keyiterator_next_1 _))))
  refine wpAny_bind (wpAny_pure (wpAny_bind (wpAny_bind ?_)))
  first | refine wpAny_bind (wpAny_typeNameOfWhole_keyiter hit.typeIs (wpAny_pure ?_)) | refine wpAny_bind (wpAny_typeNameOf_keyiter hit.typeIs (wpAny_pure ?_))
  refine wpAny_bind (wpAny_fieldsOf ho hd ?_);simp only[hown,Bool.false_eq_true,if_false]
  show wpAny _ _ (if (Value.ref d==Value.none)=true then _ else _) _ _ s
  rw[if_neg (show ¬((Value.ref d==Value.none)=true) from Bool.false_ne_true)];refine wpAny_bind (wpAny_pure (wpAny_bind (wpAny_dictEntries hod hdd ?_)));rw[if_neg (by simp)];refine wpAny_bind (wpAny_pure (wpAny_bind (wpAny_dictEpoch hod hdd ?_)));rw[if_neg (by simp)];refine wpAny_pure ?_;simp only[show ¬((es.size:Int)<0) from by omega,if_false,Zw,YO (Zm es.size)];refine wpAny_bind ?_
  first | refine wpAny_bind (wpAny_typeNameOfWhole_keyiter hit.typeIs (wpAny_pure ?_)) | refine wpAny_bind (wpAny_typeNameOf_keyiter hit.typeIs (wpAny_pure ?_))
  show wpAny _ _ (setField (.ref it) 0 .none >>= _) _ _ s
  refine wpAny_bind (wpAny_setField ho hd (by simp) ?_)
  show wpAny _ _ (newExc (.type "StopIteration") [] >>= _) _ _ _
  refine wpAny_bind ?_;simp only[newExc,newTuple];refine wpAny_bind (wpAny_newObj_type ?_ (by size_fits));refine wpAny_bind (m:=firstArgMember _ _) (wpAny_of_eq (a:=Value.none) (by first | rfl | (simp only[firstArgMember];rfl)) ?_);refine wpAny_newObj_type ?_ (by size_fits);simp only[raiseNew];refine wpAny_bind (wpAny_handled ?_);rw[show A.in1.handled=none from hh];refine wpAny_bind (wpAny_pure (wpAny_throw ?_));refine wpAny_bind (wpAny_isInstance (T := "StopIteration") (b:=true) ⟨_,Heap.get?_push_size _ rfl,rfl⟩ isSubtype_stop ?_);exact wpAny_pure (hQ _ (((Heap.SameBut.update ..).extBut.push _).push _))
theorem zh7(hh:A.handled=none)(I d:Addr)(hne:d≠I)(es:Array DictEntry)(ep:Nat) :
    Walks P w A I [I,d] [I] es.size (fun i v=>∃e,es[i]? = some e/\v=e.key) (fun i h=>h.IsKeyIter I d i es.size ep/\RawAt h d es ep) where
  sub:=fun b hb=>by simp at hb;simp[hb]
  frame:=fun _ _ _ st hk=>⟨st.1.at fun o e=>hk I (by simp) o e,st.2.mv fun o e=>hk d (by simp) o e⟩
  item:=fun i s Q E hi st hQ=>bg st.1 st.2 hi fun h' hit' hs' =>
    hQ _ h' s.toks ⟨es[i],by simp[hi],rfl⟩ ⟨hit',st.2.mv fun o e=>hs'.extBut d o hne e⟩ fun b o hb e=>hs'.extBut b o (fun h=>hb (by simp[h])) e
  done:=fun s Q E st hQ=>zaj hh st.1 st.2 fun h' he'=>hQ h' s.toks fun b o hb e=>he' b o (fun h=>hb (by simp[h])) e
  self:=fun _ _ _ _ st hQ=>wpAny_pyIter_keyiter st.1 hQ
theorem zl0{d:Addr}{es:Array DictEntry}{ep:Nat}(lo:(d==sysModules)=false) :
    PySem.W.KdlSrc P w "dict" d d es.size (fun i v=>∃e,es[i]? = some e/\v=e.key) (fun h=>RawAt h d es ep) where
  type:=fun _ hm=>hm.ty
  there:=fun _ ⟨_,ho,_⟩=>⟨Heap.lt_size ho,Heap.lt_size ho⟩
  keep:=fun _ _ hm hk=>hm.mv fun o e=>hk d (.inl rfl) o e
  notList:=by decide
  notTuple:=by decide
  hint:=fun _ _ _ _ hm hq=>PySem.W.kdl_hint_dict hm.ty hq
  iter:=fun _ _ hh hm=>⟨_,_,(fun _ _ hq=>cv lo hm hq),zh7 hh _ d (let ⟨_,ho,_⟩:=hm;Zs (Heap.lt_size ho)) es ep,⟨⟨_,Heap.get?_push_size _ rfl,rfl,rfl⟩,hm.mv fun o e=>Heap.get?_push_of_some _ e⟩⟩
end
def sd(H:Hp)(kvs:List (List Key×V))(as:List Addr):Prop:=Paired (fun(p:List Key×V) (a:Addr)=>H a=some (.tup (p.1.map kV))) kvs as
def zis(xs:List V)(H:Hp)(Q:VK):Prop:=∃(a:Addr) (kvs:List (List Key×V)),xs=[.ref a]/\H a=some (.dT kvs)/\∀as,sd H kvs as->∀p,H p=none->Q (.ref p) (upd H p (.lst (as.map V.ref)))
theorem zmg{xs:List V}{H:Hp}{Q:VK}:zis xs H Q=∃(a:Addr) (kvs:List (List Key×V)),xs=[.ref a]/\H a=some (.dT kvs)/\∀as,sd H kvs as->∀p,H p=none->Q (.ref p) (upd H p (.lst (as.map V.ref))):=rfl
section
variable{X:Cx}
theorem zad(hc:X.calm=true):ve X (.type "list") zis:=by
  intro pins s σ H xs us Q I r h;obtain⟨a,kvs,rfl,ha,q⟩:=h;obtain⟨u,rfl,ru⟩:=tz r;obtain rfl:u=Value.ref a:=ru;obtain⟨z,hd,ys,rel,dd⟩:=zf5 I.hok ha;obtain⟨o,es,ep,ho,hce,hdat,he,_⟩:=id dd
  have hl:es.size=kvs.length:=by
    rw[size_of_entries he];exact(Paired.length rel).symm
  have hk:sd H kvs (ys.map fun y=>y.2.1):=by
    have go:∀{l:List (List Key×V)} {m:List (List Key×Addr×Value)},KT H l m->sd H l (m.map fun y=>y.2.1):=by
      intro l m t
      induction t with
      | nil=>exact .nil
      | cons h _ ih=>exact .cons h.2.1 ih
    exact go rel
  refine PySem.W.kdl_call (zl0 hd) (I.ok.hd hc) ⟨o,ho,hce,hdat⟩ (by omega) fun h' tk acc' c' kp e hacc => ?_
  have hv:acc'.toList=ys.map fun y=>Value.ref y.2.1:=by
    refine List.ext_getElem? fun i => ?_
    rcases Nat.lt_or_ge i es.size with hi | hi
    . have hs:acc'.size=es.size:=hacc.1
      have h1:acc'[i]? = some acc'[i]:=by simp[hs,hi]
      obtain⟨e,h2,h3⟩:=hacc.2 i _ h1;rw[entry_at he]at h2;rw[Ze,Array.getElem?_toList,h1,h3]
      cases hy:ys[i]? with
      | none=>rw[hy]at h2;cases h2
      | some y=>rw[hy]at h2;cases h2;rfl
    . have hs:acc'.size=es.size:=hacc.1
      rw[Yl (by simp;omega),Yl (by rw[Za,<-size_of_entries he];exact hi)]
  refine⟨.ref s.heap.objs.size,_,I.laid (t':=tk) kp (Zm _) (show ObjOk X.prog X.w _ h' _ (.lst ((ys.map fun y=>y.2.1).map V.ref)) from⟨?_,ys.map fun y=>Value.ref y.2.1,c',?_,?_⟩),rfl,q _ hk _ (I.hok.fresh (Zm _))⟩
  . rw[Za,Za,<-size_of_entries he];omega
  . generalize ys=m
    induction m with
    | nil=>exact .nil
    | cons y m ih=>exact .cons rfl ih
  . rw[e,<-hv]
end
theorem zfx(n:Nat):sliceRange ((n:Int)-1) (-1) (-1)=(List.range n).map fun k=>n-1-k:=by
  unfold sliceRange;simp only[show ¬((-1:Int) > 0) by decide,if_false,show-(-1:Int)=1 by decide,Int.ediv_one]
  have hc:(if ((n:Int)-1 > -1) then((n:Int)-1 - -1 - -1-1) else 0).toNat=n:=by
    split <;> omega
  rw[hc];refine YF fun k _ => ?_
  omega
theorem zfi{α β:Type}{f:α->Option β}{g:α->β}:∀{l:List α},(∀a∈l,f a=some (g a))->l.filterMap f=l.map g
  | [],_=>rfl
  | a::l,h=>by rw[YE,h a (by simp),ZL,zfi fun b hb=>h b (by simp[hb])]
theorem zjd(its:List Value):slicePick its.toArray none none (some (-1))=its.reverse.toArray:=by
  have hb:sliceBounds none none (some (-1)) its.toArray.size=(((its.length:Nat):Int)-1,-1,-1):=by simp[sliceBounds]
  unfold slicePick;rw[hb,zfx,List.filterMap_map]
  congr 1
  rw[zfi (g:=fun k=>its.getD (its.length-1-k) .none) fun k hk => ?_]
  . refine List.ext_getElem (by simp) fun i h1 h2 => ?_
    have hi:i<its.length:=by simpa using h2
    have hj:its.length-1-i<its.length:=by omega
    simp[Zb hj]
  . have hi:k<its.length:=ZP.mp hk
    have hj:its.length-1-k<its.length:=by omega
    simp[Zb hj]
section
variable{X:Cx}{e st:Expr}{te:TE}{ts:TO}{pos p2:Pos}
def tDown(K:Fg)(te:TE)(ts:TO):TE:=fun σ H Q=>te σ H fun x H1=>ts σ H1 fun k H2=>k=some (-1)/\∃a xs,x=.ref a/\SqL K H2 a xs/\∀p,H2 p=none->Q (.ref p) (upd H2 p (.lst xs.reverse))
theorem zj6{xs:List V}{vs:List Value}(r:Vals xs vs):Vals xs.reverse vs.reverse:=by
  induction r with
  | nil=>exact .nil
  | @cons x v xs vs h _ ih =>
    rw[List.reverse_cons,List.reverse_cons];exact ih.append (.cons h .nil)
theorem ze8(he:PE X e te)(hs:PO X (some st) ts):PE X (.Subscript e (.Slice none none (some st) p2) pos) (tDown X.K te ts):=by
  intro pins s σ H Q I h;refine Subscript_ (thn (he pins s σ H _ I h) fun v s1 ⟨x,H1,I1,r1,q1⟩ => ?_);refine wpAny_Slice ?_;rw[evalPart_none];refine wpAny_pure (wpAny_pure ?_);refine thn (hs pins s1 σ H1 _ I1 q1) fun vk s3 ⟨k,H3,I3,pk,q3⟩ => ?_
  obtain⟨rfl,a,xs,rfl,hx,q⟩:=q3;cases r1;have I4:Inv X pins σ H3 { s3 with heap:=s3.heap.push { cls:=.type "slice", data:=.fields #[.none,.none,vk] } }:=I3.kept (t':=s3.toks) fun b ob q=>Heap.get?_push_of_some _ q
  obtain⟨its,r,ht,hz⟩:=I4.list hx;have hlen:=r.length
  show wpAny (model X.prog X.w) X.A (subscriptTail e (.Slice none none (some st) p2) (.ref a) (.ref s3.heap.objs.size)) (EP X pins σ Q) X.xe { s3 with heap:=s3.heap.push { cls:=.type "slice", data:=.fields #[.none,.none,vk] } }
  refine tail_any (ops:=[.ref a,.ref s3.heap.objs.size]) ht.isList.typeIs slot_list_getitem.lookup ?_ (by with_unfolding_all rfl);refine wpAny_getItem_list_slice ht.isList (Heap.IsSliceOf.new ..) .none .none pk (by simp) ?_ (by rw[Zr] <;> omega);rw[zjd];refine⟨.ref _,_,I4.laid (t':=s3.toks) (o:=.lst xs.reverse) (fun b ob q=>Heap.get?_push_of_some _ q) (Zm _) ?_,rfl,q _ (I4.hok.fresh (Zm _))⟩;exact⟨by rw[ZN];exact hz,_,0,zj6 r,Heap.get?_push_size _ rfl⟩
theorem e_down{K:Fg}{σ:St}{H:Hp}{Q:VK}:tDown K te ts σ H Q=te σ H fun x H1=>ts σ H1 fun k H2=>k=some (-1)/\∃a xs,x=.ref a/\SqL K H2 a xs/\∀p,H2 p=none->Q (.ref p) (upd H2 p (.lst xs.reverse)):=rfl
end
end L2
namespace L2
open PySem PySem.Spec PyProof.Rows
def Itk(a:Addr)(o:Obj)(u:HO)(as:List Addr):It :=
  ⟨fun i H=>H a=some (.frz o u)/\i<as.length,fun i H x H'=>H'=H/\∃c,as[i]? = some c/\x=.ref c,fun i H=>H a=some (.frz o u)/\i=as.length⟩
theorem zgm{P:Program}{w:World}{K:Fg}{tg:Expr}{a it:Addr}{o:Obj}{u:HO}{as:List Addr}{es:Array DictEntry}{ep:Nat}(hx:o.ExactDict)(hd:o.data=.dict es ep)(hn:es.size=as.length)
    (hk:∀(i:Nat) (e:DictEntry),es[i]? = some e->∃c,as[i]? = some c/\e.key=.ref c):Turn P w K tg (Itk a o u as) [it] it (fun i h=>h.IsKeyIter it a i es.size ep) where
  mem:=by simp
  obj:=fun i h st b hb=>by
    have e:b=it:=by simpa using hb
    subst e;obtain⟨o,e,c,d⟩:=st;exact⟨o,e,fun v z=>by rw[d]at z;cases z⟩
  keep:=fun i h h' st k=>st.at fun o e=>k it (by simp) o e
  item:=by
    intro X hP hw hK hc i pins s σ H E I hf st hg;subst hP hw hK;obtain⟨h1,h2⟩:=hg;obtain⟨ho,_⟩:=(show ObjOk X.prog X.w H s.heap a (.frz o u) from I.hok a _ h1);obtain⟨f0,f1,f2,f3,f4,f5⟩:=hf it (by simp);refine bg st ⟨o,ho,hx,hd⟩ (by rw[hn];exact h2) fun h' st' sb => ?_
    obtain⟨c,hc1,hc2⟩:=hk i es[i] (by simp);have I1:Inv X pins σ H { s with heap:=h' }:=I.turned (t':=s.toks) (fun b o hb e=>(sb.2 b hb).trans e) f0 f1 f3 f4 f5;obtain⟨o',e,c',d⟩:=id st';exact⟨_,rfl,i4 (s:={ s with heap:=h' }) e c' d (by decide) ⟨.ref c,H,I1,hc2,⟨rfl,c,hc1,rfl⟩,st',fun b hb=>(hf b hb).1⟩⟩
  done:=by
    intro X hP hw hK hc i pins s σ H E I hf st hg;subst hP hw hK;obtain⟨h1,rfl⟩:=hg;obtain⟨ho,_⟩:=(show ObjOk X.prog X.w H s.heap a (.frz o u) from I.hok a _ h1);obtain⟨f0,f1,f2,f3,f4,f5⟩:=hf it (by simp);rw[<-hn]at st;exact zaj (I.ok.hd hc) st ⟨o,ho,hx,hd⟩ fun h' eb=>⟨rfl,I.turned (t':=s.toks) (fun b o hb e=>eb b o hb e) f0 f1 f3 f4 f5⟩
  self:=fun _ _ _ _ _ st h=>wpAny_pyIter_keyiter st h
section
variable{X:Cx}{tg:Expr}
def iDicT(tl:TE):TI:=fun σ H R=>tl σ H fun x H1=>∃a kvs,x=.ref a/\H1 a=some (.dT kvs)/\∀o as,sd H1 kvs as->R (Itk a o (.dT kvs) as) (upd H1 a (.frz o (.dT kvs)))
theorem zly{tl:TE}{σ:St}{H:Hp}{R:It->Hp->Prop}:iDicT tl σ H R=tl σ H fun x H1=>∃a kvs,x=.ref a/\H1 a=some (.dT kvs)/\∀o as,sd H1 kvs as->R (Itk a o (.dT kvs) as) (upd H1 a (.frz o (.dT kvs))):=rfl
theorem zkg{l:Expr}{tl:TE}(hl:PE X l tl):PI X tg l (iDicT tl):=by
  intro pins s σ H R I h;refine thn (hl pins s σ H _ I h) fun v s1 ⟨x,H1,I1,r1,q1⟩ => ?_
  obtain⟨a,kvs,e,ha,q⟩:=q1;subst e;obtain rfl:v=Value.ref a:=r1;obtain⟨z,hd,xs,rel,o,es,ep,ho,hce,hdat,he,nd⟩:=(show ObjOk X.prog X.w H1 s1.heap a (.dT kvs) from I1.hok a _ ha);have hsz:es.size=(xs.map fun y=>y.2.1).length:=by rw[size_of_entries he,Za]
  have hk:sd H1 kvs (xs.map fun y=>y.2.1):=by
    have go:∀{l:List (List Key×V)} {m:List (List Key×Addr×Value)},KT H1 l m->sd H1 l (m.map fun y=>y.2.1):=by
      intro l m t
      induction t with
      | nil=>exact .nil
      | cons h _ ih=>exact .cons h.2.1 ih
    exact go rel
  have hkey:∀(i:Nat) (e:DictEntry),es[i]? = some e->∃c,(xs.map fun y=>y.2.1)[i]? = some c/\e.key=.ref c:=fun i e h2=>by
    rw[entry_at he]at h2;rw[Ze]
    cases hy:xs[i]? with
    | none=>rw[hy]at h2;cases h2
    | some y=>rw[hy]at h2;cases h2;exact⟨_,rfl,rfl⟩
  have I2:Inv X pins σ (upd H1 a (.frz o (.dT kvs))) s1:=by
    refine ik (h':=s1.heap) (t':=s1.toks) I1 (by rw[ha];exact True.intro) ⟨rfl,fun _ _=>rfl⟩ ⟨o,ho⟩ ⟨ho,z,hd,xs,?_,o,es,ep,ho,hce,hdat,he,nd⟩;refine Paired.mapP rel fun p q y=>⟨y.1,?_,y.2.2⟩
    rw[zp (fun e=>by have:=y.2.1;rw[e,ha]at this;cases this)];exact y.2.1
  refine cv hd ⟨o,ho,hce,hdat⟩ ?_;refine⟨s1.heap.objs.size,[s1.heap.objs.size],_,_,_,rfl,I2.kept (t':=s1.toks) fun b o e=>Heap.get?_push_of_some _ e,zgm hce hdat hsz hkey,⟨_,Heap.get?_push_size _ rfl,rfl,rfl⟩,fun b hb => ?_,q o _ hk⟩;have e:b=s1.heap.objs.size:=by simpa using hb
  subst e;exact I2.fpOk (Zm _) (I2.hok.fresh (Zm _))
theorem zh5{a:Addr}{ob:Obj}{u:HO}{as:List Addr}{g:TG}{tb:TS}{D:Ends}{σ:St}{H:Hp}(Pv:Nat->St->Hp->Prop)(h0:Pv 0 σ H)(hl:∀i σ H,i<=as.length->Pv i σ H->H a=some (.frz ob u))
    (hs:∀i c σ H,as[i]? = some c->Pv i σ H->g (.ref c) σ H fun σ2 H2=>tb { D with nx:=Pv (i+1),ct:=Pv (i+1),bk:=D.nx } σ2 H2) (hd:∀σ H,Pv as.length σ H->D.nx σ H):ForW (Itk a ob u as) g tb D σ H:=by
  refine⟨fun i m σ H=>m=as.length-i/\i<=as.length/\Pv i σ H,⟨as.length,by simp,ZE _,h0⟩,?_⟩
  rintro i m σ H ⟨rfl,hi,p⟩
  have q:=hl i σ H hi p
  by_cases hlt:i<as.length
  . refine .inr ⟨⟨q,hlt⟩,Pv (i+1),fun σ' H' p'=>⟨as.length-(i+1),by omega,rfl,hlt,p'⟩,fun x H' y => ?_⟩
    obtain⟨rfl,c,hc,rfl⟩:=y;exact hs i c σ _ hc p
  . have e:i=as.length:=by omega
    subst e;exact .inl ⟨⟨q,rfl⟩,hd σ H p⟩
end
end L2
namespace L2
open PySem PySem.Spec PyProof.Rows
section
variable{prog:Program}{w:World}{K:Type}[DecidableEq K]{knd:KeyKind prog w K}
def accK(ps:List (K×Value))(i:Nat):List (K×Value):=(ps.take i).foldl (fun xs p=>stored xs p.1 p.2) []
theorem zbe{ps:List (K×Value)}{i:Nat}{p:K×Value}(h:ps[i]? = some p):accK ps (i+1)=stored (accK ps i) p.1 p.2:=by
  unfold accK;rw[Zq,h];simp
theorem zg6(xs:List (K×Value))(k:K)(v:Value):(stored xs k v).length<=xs.length+1:=by
  unfold stored
  split
  . rw[Za];omega
  . rw[Zo];simp
theorem zcc(ps:List (K×Value)):∀i,i<=ps.length->(accK ps i).length<=i
  | 0,_=>Zm _
  | i+1,h=>by
    have e:ps[i]? = some ps[i]:=Zb h;rw[zbe e];exact Zd (zg6 _ _ _) (YA (zcc ps i (by omega)))
structure zca(knd:KeyKind prog w K)(h:Heap)(items:Array Value)(ps:List (K×Value)):Prop where
  len:items.size=ps.length
  at':∀(i:Nat) (p:K×Value),ps[i]? = some p->∃T u,items[i]? = some (.ref T)/\h.IsTuple T #[u,p.2]/\knd.is p.1 u=true
theorem i5{h h':Heap}{d:Addr}{xs:List (K×Value)}(q:h.DictOf knd d xs)(hd:∀o,h.get? d=some o->h'.get? d=some o):h'.DictOf knd d xs:=by
  obtain⟨o,es,ep,ho,r⟩:=q;exact⟨o,es,ep,hd o ho,r⟩
theorem zg8{A:Around}{hB:Heap}{g:Array GenState}{dr:Drawn}{os:OsState}{d it l:Addr}{items:Array Value}{ps:List (K×Value)}{R:Result->Shared->Prop}(hA:A.handled=none)(hl:hB.IsList l items)(hP:zca knd hB items ps)(hd:hB.objs.size<=d)(hi:hB.objs.size<=it)(hdi:d≠it)(hz:ps.length<=sizeLine)
    (hR:∀h' tk,(∀c o,hB.get? c=some o->h'.get? c=some o)->h'.DictOf knd d (accK ps ps.length)->R (.ok (.ret .none)) ⟨h',g,dr,tk,os⟩) :
    ∀(k i:Nat) (h:Heap) (tk:Nat),ps.length-i=k->i<=ps.length->(∀c o,hB.get? c=some o->h.get? c=some o)->h.IsListIter it l i->h.DictOf knd d (accK ps i) ->
      codeAny (model prog w) A (.builtin "dict.update.loop" ⟨[.ref d,.ref it,rawInt i,.none],[]⟩) R ⟨h,g,dr,tk,os⟩:=by
  have ltB:∀{c o},hB.get? c=some o->c<hB.objs.size:=fun e=>Heap.lt_size e
  intro k
  induction k with
  | zero =>
    intro i h tk hk hi' kp hit hD;have e:i=ps.length:=by omega
    subst e;refine codeAny_builtin jp ?_;rw[Around.under_plainId ue _];have hl':h.IsList l items:=hl.at fun o e=>kp _ o e
    show wpAny _ A.in1 (pyNext (.ref it) >>= _) _ _ _
    refine wpAny_bind (wpAny_pyNext_list_end (s:=⟨h,g,dr,tk,os⟩) hA hit hl' (by rw[YO];rw[hP.len];exact Zm _) fun h' ext => ?_)
    replace ext:Heap.ExtBut it h h':=ext
    have kp':∀c o,hB.get? c=some o->h'.get? c=some o:=fun c o e=>ext c o (Zs (Zh (ltB e) hi)) (kp c o e)
    show wpAny _ _ (Builtin.Dict.addKeywords d [] >>= _) _ _ _
    exact wpAny_bind (wpAny_pure (wpAny_pure (hR h' tk kp' (i5 hD fun o e=>ext d o hdi e))))
  | succ k ih =>
    intro i h tk hk hi' kp hit hD;have hlt:i<ps.length:=by omega
    have ep:ps[i]? = some ps[i]:=Zb hlt;obtain⟨T,u,eT,hT,hK⟩:=hP.at' i _ ep;refine codeAny_builtin jp ?_;rw[Around.under_plainId ue _];have hl':h.IsList l items:=hl.at fun o e=>kp _ o e
    show wpAny _ A.in1 (pyNext (.ref it) >>= _) _ _ _
    refine wpAny_bind (wpAny_pyNext_list_item (s:=⟨h,g,dr,tk,os⟩) hit hl' eT fun h1 hit1 sb => ?_)
    replace sb:Heap.SameBut it h h1:=sb
    have kp1:∀c o,hB.get? c=some o->h1.get? c=some o:=fun c o e=>sb.extBut c o (Zs (Zh (ltB e) hi)) (kp c o e)
    have hD1:h1.DictOf knd d (accK ps i):=i5 hD fun o e=>sb.extBut d o hdi e
    obtain⟨oT,eoT,cT,nT,dT⟩:=hT;have hTs:(⟨h1,g,dr,tk,os⟩:Shared).TypeIs (.ref T) "tuple" := ⟨oT,kp1 _ _ eoT,cT⟩
    show wpAny _ A.in1 (holding [Value.ref T] _ >>= _) _ _ _
    refine wpAny_bind (wpAny_holding ?_);refine wpAny_bind (wpAny_tryCatch ?_);unfold Builtin.Dict.pairItems;refine wpAny_bind (wpAny_typeOf hTs ?_);rw[if_pos (by decide)];refine wpAny_bind (wpAny_seqItems (s:=⟨h1,g,dr,tk,os⟩) (kp1 _ _ eoT) dT ?_);refine wpAny_pure ?_
    show wpAny _ A.in1 (holding [u,ps[i].2] (dictSet d u ps[i].2)) _ _ _
    refine wpAny_holding ?_;refine wpAny_dictSet_pairs (s:=⟨h1,g,dr,tk,os⟩) hK hD1 (fun h2 hD2 sb2 => ?_) (Zd (zcc ps i hi') (by omega))
    replace sb2:Heap.SameBut d h1 h2:=sb2
    have kp2:∀c o,hB.get? c=some o->h2.get? c=some o:=fun c o e=>sb2.extBut c o (Zs (Zh (ltB e) hd)) (kp1 c o e)
    rw[<-zbe ep]at hD2;refine wpAny_pure ⟨plainId_quiet ue _,?_⟩;exact ih (i+1) h2 (tk+1) (by omega) hlt kp2 (hit1.extBut sb2.extBut (Ne.symm hdi)) hD2
theorem bb {A:Around} {E:Value->Shared->Prop} {s:Shared} {l:Addr} {o:Obj} {items:Array Value} {n:Nat} {ps:List (K×Value)} {Q:Value->Shared->Prop} (hA:A.handled=none) (ho:s.heap.get? l=some o) (hc:o.cls=.type "list") (hdat:o.data=.seq items n) (hdn:o.dict=none) (hP:zca knd s.heap items ps) (hz:ps.length<=sizeLine)
    (h:∀h' tk,(∀c o,s.heap.get? c=some o->h'.get? c=some o)->h'.DictOf knd s.heap.objs.size (accK ps ps.length)->Q (.ref s.heap.objs.size) { s with heap:=h',toks:=tk }) :
    wpAny (model prog w) A (call (.type "dict") [.ref l]) Q E s:=by
  refine callType_codes (Q₁:=fun obj s₁=>obj=.ref s.heap.objs.size/\s₁={ s with heap:=s.heap.push { cls:=.type "dict", data:=.dict #[] } }) F.kt_called_dict (F.kt_typeCall_dict_1 _) F.entry_dict_init (kt_code_dict_new _ ⟨rfl,rfl⟩) ?_
  rintro obj s₁ ⟨rfl,rfl⟩
  have hnew:(s.heap.push { cls:=.type "dict", data:=.dict #[] }).DictOf knd s.heap.objs.size []:=Heap.DictOf.new s.heap;have ho':(s.heap.push { cls:=.type "dict", data:=.dict #[] }).get? l=some o:=Heap.get?_push_of_some _ ho;refine⟨⟨_,Heap.get?_push_size _ rfl,rfl⟩,F.args_dict_init_2 _ _,?_⟩;unfold Builtin.«dict.__init__»;refine wpAny_bind ?_;unfold Builtin.Dict.selfAndRest;refine wpAny_bind (wpAny_notOrdered_dict ⟨_,Heap.get?_push_size _ rfl,rfl⟩ ?_)
  show wpAny _ _ (pure (s.heap.objs.size,[Value.ref l])) _ _ _
  refine wpAny_pure ?_
  show wpAny _ _ (Builtin.Dict.updateFrom "dict.__init__" s.heap.objs.size (.ref l) [] .none) _ _ _
  unfold Builtin.Dict.updateFrom;refine wpAny_bind (wpAny_typeOf ⟨_,ho',hc⟩ ?_);rw[if_pos (by decide)];refine wpAny_bind (ox ho' hc hdat hdn hA fun h1 tk1 k1 => ?_);rw[if_pos (by decide)];refine wpAny_bind (wpAny_rule ?_);have hl1:h1.IsList l items:=⟨o,k1 _ _ ho',hc,n,hdat⟩;have hd1:h1.get? s.heap.objs.size=some { cls:=.type "dict", data:=.dict #[] }:=k1 _ _ (Heap.get?_push_size _ rfl);have hlt:s.heap.objs.size<h1.objs.size:=Heap.lt_size hd1;refine wpAny_bind (wpAny_pyIter_list (s:=⟨h1,s.gens,s.drawn,tk1,s.os⟩) hl1 (wpAny_pure ⟨plainId_quiet ue _,?_⟩));have kp:∀c o,s.heap.get? c=some o->(h1.push { cls:=.type "list_iterator", data:=.fields #[.ref l,.int 0 0] }).get? c=some o:=fun c o e=>Heap.get?_push_of_some _ (k1 _ _ (Heap.get?_push_of_some _ e))
  exact zg8 (knd:=knd) (A:=A.in1) (hB:=s.heap) (g:=s.gens) (dr:=s.drawn) (os:=s.os) (l:=l) (items:=items) (ps:=ps) hA ⟨o,ho,hc,n,hdat⟩ hP (Zm _) (YI hlt) (Zs hlt) hz
    (fun h' tk kp' hD=>⟨rfl,h h' tk kp' hD⟩) ps.length 0 _ tk1 (by omega) (ZE _) kp ⟨_,Heap.get?_push_size _ rfl,rfl,rfl⟩ (i5 hnew fun o e=>Heap.get?_push_of_some _ (k1 _ _ e))
end
structure zae(H:Hp)(Ts:List Addr)(kvs:List (Key×V)):Prop where
  len:Ts.length=kvs.length
  at':∀(i:Nat) (T:Addr) (kv:Key×V),Ts[i]? = some T->kvs[i]? = some kv->H T=some (.tup [kV kv.1,kv.2])
def zjq(xs:List V)(H:Hp)(Q:VK):Prop:=∃(l:Addr) (Ts:List Addr) (kvs:List (Key×V)),xs=[.ref l]/\H l=some (.lst (Ts.map V.ref))/\zae H Ts kvs/\(kvs.map (·.1)).Nodup/\∀p,H p=none->Q (.ref p) (upd H p (.dK kvs))
theorem zmb{xs:List V}{H:Hp}{Q:VK}:zjq xs H Q=∃(l:Addr) (Ts:List Addr) (kvs:List (Key×V)),xs=[.ref l]/\H l=some (.lst (Ts.map V.ref))/\zae H Ts kvs/\(kvs.map (·.1)).Nodup/\∀p,H p=none->Q (.ref p) (upd H p (.dK kvs)):=rfl
section
variable{X:Cx}{pins:List (Addr×Obj)}{σ:St}{H:Hp}{s:Shared}
theorem za3(I:Inv X pins σ H s):∀{Ts:List Addr} {kvs:List (Key×V)} {us:List Value},zae H Ts kvs->Vals (Ts.map V.ref) us->∃ps:List (Key×Value),zca (yq X.prog X.w) s.heap us.toArray ps/\KV kvs ps
  | [],[],us,q,r=>by
    cases r;exact⟨[],⟨rfl,fun i p e=>by simp at e⟩,.nil⟩
  | T::Ts,kv::kvs,us,q,r=>by
    rw[ZL]at r
    cases r with
    | @cons _ u _ us r0 r1 =>
      obtain⟨ps,P,k⟩:=za3 I (Ts:=Ts) (kvs:=kvs) ⟨by simpa using q.len,fun i T kv e1 e2=>q.at' (i+1) T kv (by simpa using e1) (by simpa using e2)⟩ r1;have hT:=q.at' 0 T kv rfl rfl;obtain⟨z,its,rr,hI⟩:=(show ObjOk X.prog X.w H s.heap T (.tup [kV kv.1,kv.2]) from I.hok T _ hT);obtain⟨u1,u2,rfl,ru1,ru2⟩:=Vals.two rr;obtain rfl:u=Value.ref T:=r0;refine⟨(kv.1,u2)::ps,⟨by simp[<-P.len],fun i p e => ?_⟩,.cons ⟨rfl,ru2⟩ k⟩
      cases i with
      | zero =>
        simp at e;subst e;obtain⟨o,e1,c1,n1,d1,_⟩:=hI;exact⟨T,u1,by simp,⟨o,e1,c1,n1,d1⟩,df ru1⟩
      | succ i =>
        obtain⟨T',u',a1,a2,a3⟩:=P.at' i p (by simpa using e);exact⟨T',u',by simpa using a1,a2,a3⟩
  | [],kv::kvs,us,q,r=>by simpa using q.len
  | T::Ts,[],us,q,r=>by simpa using q.len
theorem zl7:∀{l:List (Key×V)} {m:List (Key×Value)} {a:List (Key×V)} {b:List (Key×Value)},KV l m->KV a b->KV (l.foldl (fun acc kv=>putK acc kv.1 kv.2) a) (m.foldl (fun xs p=>stored xs p.1 p.2) b):=by
  intro l m a b q
  induction q generalizing a b with
  | nil=>intro z;exact z
  | @cons p q ps qs h t ih =>
    intro z;obtain⟨h1,h2⟩:=h;refine ih ?_
    show KV (putK a p.1 p.2) (stored b q.1 q.2)
    rw[<-h1];exact z.put p.1 h2
theorem zk1:∀(l a:List (Key×V)),((a++l).map (·.1)).Nodup->l.foldl (fun acc kv=>putK acc kv.1 kv.2) a=a++l:=by
  intro l
  induction l with
  | nil=>intro a _;simp
  | cons p l ih =>
    intro a hn
    have hno:valV a p.1=none:=by
      cases e:valV a p.1 with
      | none=>rfl
      | some v =>
        exfalso
        have hm:=da e;rw[Zn,Yo]at hn;exact hn.2.2 _ hm _ (by simp) rfl
    rw[YX,kc _ hno,ih _ (by simpa using hn)];simp
theorem zgr(hc:X.calm=true):ve X (.type "dict") zjq:=by
  intro pins s σ H xs us Q I r h;obtain⟨l,Ts,kvs,rfl,hl,hP,hnd,q⟩:=h;obtain⟨u,rfl,ru⟩:=tz r;obtain rfl:u=Value.ref l:=ru;obtain⟨its,rv,pl,hz⟩:=I.list (SqL.of hl);obtain⟨ps,P,k⟩:=za3 I hP rv;obtain⟨o,n,e,c,d,dat⟩:=id pl;have hps:ps.length=kvs.length:=(Paired.length k).symm;have hkl:kvs.length<=sizeLine:=by rw[Za,hP.len]at hz;exact hz
  refine bb (knd:=yq X.prog X.w) (I.ok.hd hc) e c dat d P (by omega) fun h' tk kp hD => ?_
  have hn:H s.heap.objs.size=none:=I.hok.fresh (Zm _);refine⟨.ref s.heap.objs.size,upd H s.heap.objs.size (.dK kvs),I.laid (t':=tk) (fun b u e=>kp b u e) (Zm _) ?_,rfl,q _ hn⟩;have hb:=I.big;refine⟨hkl,beq_eq_false_iff_ne.mpr (Ym hb),accK ps ps.length,?_,hD⟩;have:=zl7 k (a:=[]) (b:=[]) .nil;rw[zk1 kvs [] (by simpa using hnd)]at this;unfold accK;rw[Zt]
  simpa using this
end
end L2
namespace L2
open PySem PySem.Spec PyProof.Rows
section
variable{prog:Program}{w:World}{K:Type}[DecidableEq K]{knd:KeyKind prog w K}{A:Around}{E:Value->Shared->Prop}{s:Shared}
end
section
variable{X:Cx}
end
end L2
namespace L2
open PySem PySem.Spec PyProof.Rows AutoSeq1
set_option maxHeartbeats 1000000 in
theorem gb(l:Addr)(items:Array Value)(n:Nat)(dct:Option Addr)(sl:Array (Option Value)) :
    Meets (Builtin.«enumerate.__new__» ⟨[.type "enumerate", .ref l],[]⟩) (fun _ R s=>s.heap.get? l=some { cls:=.type "tuple", dict:=dct,data:=.seq items n,slots:=sl } /\
      R (.ok (.ret (.ref (s.heap.push { cls:=.type "tuple_iterator", data:=.fields #[.ref l,.int 0 0] }).objs.size)))
        { s with heap:=(s.heap.push { cls:=.type "tuple_iterator", data:=.fields #[.ref l,.int 0 0] }).push { cls:=.type "enumerate", data:=.fields #[.none,.bool false,.ref s.heap.objs.size,rawInt 0,.none,.none] } }) :=
  .of_wp fun prog w A R s h=>by
    obtain⟨hp,g,d,tk,os⟩:=s;obtain⟨hl,h⟩:=h;have hsub:=sub_enumerate;have hL:Heap.IsTuple (Shared.heap ⟨hp,g,d,tk,os⟩) l items:=⟨_,hl,rfl,n,rfl⟩
    wp_walk using wpAny_loadPart' hl
    refine wpAny_stack_any fun st=>wpAny_pure ?_
    split
    . rename_i c _ _ _ _ _
      cases (c==Value.type "enumerate")
      . wp_walk using wpAny_loadPart' hl,wpAny_pyIter_tuple hL
        exact⟨_,rfl,h⟩
      . wp_walk using wpAny_loadPart' hl,wpAny_pyIter_tuple hL
        exact⟨_,rfl,h⟩
    . wp_walk using wpAny_loadPart' hl,wpAny_pyIter_tuple hL
      exact⟨_,rfl,h⟩
section
variable{prog:Program}{w:World}{A:Around}{E:Value->Shared->Prop}{s:Shared}
theorem gk{l:Addr}{items:Array Value}{Q:Value->Shared->Prop}(hL:s.heap.IsTuple l items)
    (h:∀h',IsEnum h' (s.heap.objs.size+1) s.heap.objs.size 0 .none->h'.IsTupleIter s.heap.objs.size l 0->h'.objs.size=s.heap.objs.size+2 ->
      (∀b o,s.heap.get? b=some o->h'.get? b=some o)->Q (.ref (s.heap.objs.size+1)) { s with heap:=h' }) :
    wpAny (model prog w) A (call (.type "enumerate") [.ref l]) Q E s:=by
  obtain⟨⟨c,dct,dt,sl⟩,hl,hc,n,hd⟩:=hL
  replace hc:c=.type "tuple" := hc
  replace hd:dt=.seq items n:=hd
  subst hc hd
  refine callType_new F.called_enumerate (by decide) (F.typeCall_enumerate_1 _) (F.newCall_enumerate_1 _) (fun obj=>F.args_object_init_2 obj _) F.entry_enumerate_new
    (gb l items n dct sl) ⟨hl,?_⟩
  have hz:(s.heap.push { cls:=.type "tuple_iterator", data:=.fields #[.ref l,.int 0 0] }).objs.size=s.heap.objs.size+1:=Heap.size_push ..
  show _/\_
  rw[hz]
  have he:IsEnum ((s.heap.push { cls:=.type "tuple_iterator", data:=.fields #[.ref l,.int 0 0] }).push
      { cls:=.type "enumerate", data:=.fields #[.none,.bool false,.ref s.heap.objs.size,rawInt 0,.none,.none] }) (s.heap.objs.size+1) s.heap.objs.size 0 .none:=by
    have:=Heap.get?_push_size (s.heap.push { cls:=.type "tuple_iterator", data:=.fields #[.ref l,.int 0 0] })
      (o:={ cls:=.type "enumerate", data:=.fields #[.none,.bool false,.ref s.heap.objs.size,rawInt 0,.none,.none] }) rfl
    rw[hz]at this;exact this
  refine⟨⟨_,he,rfl⟩,h _ he ⟨_,Heap.get?_push_of_some _ (Heap.get?_push_size _ rfl),rfl,rfl⟩ (by rw[Heap.size_push,hz]) fun b o x=>Heap.get?_push_of_some _ (Heap.get?_push_of_some _ x)⟩
theorem cq{h:Heap}{t:Addr}{items:Array Value}(q:h.IsTuple t items):SeqH h t items:=by
  obtain⟨o,e,c,n,d⟩:=q;exact⟨o,n,e,d⟩
theorem zdw(hh:A.handled=none)(it t:Addr)(hne:t≠it)(items:Array Value) :
    Draws prog w A it [it,t] items.size (fun i v=>items[i]? = some v) (fun i h=>h.IsTupleIter it t i/\h.IsTuple t items) where
  live:=fun _ _ st=>let ⟨o,ho,_⟩:=st.1;⟨o,ho⟩
  frame:=fun _ _ _ st hk=>⟨st.1.at fun o e=>hk it (by simp) o e,let ⟨o,ho,r⟩:=st.2;⟨o,hk t (by simp) o ho,r⟩⟩
  item:=fun i s Q E hi st hQ=>by
    refine mf st.1 (cq st.2) (x:=items[i]) (by simp[hi]) fun h' hit' hs' => ?_
    exact hQ _ h' s.toks (by simp[hi]) ⟨hit',let ⟨o,ho,r⟩:=st.2;⟨o,hs'.extBut t o hne ho,r⟩⟩ hs'
  done:=fun s Q E st hE=>rc hh st.1 (cq st.2) (by simp) hE
end
def ItT(K:Fg)(a:Addr):It :=
  ⟨fun i H=>∃xs x,SqT K H a xs/\xs[i]? = some x,
   fun i H v H'=>∃T x,v=.ref T/\H T=none/\H'=upd H T (.tup [.int i,x])/\∀xs,SqT K H a xs->xs[i]? = some x,
   fun i H=>∃xs,SqT K H a xs/\xs.length<=i⟩
theorem zfw{P:Program}{w:World}{K:Fg}{elts:List Expr}{x1:Nat}{pos:Pos}(e it l:Addr)(n:Nat)(hne:e≠it) :
    Turn P w K (.Tuple elts x1 pos) (ItT K l) [e,it] e (fun i h=>(∃old,IsEnum h e it i old)/\h.IsTupleIter it l i) where
  mem:=by simp
  obj:=fun i h st b hb=>by
    obtain⟨⟨old,he⟩,⟨o1,e1,c1,d1⟩⟩:=st;simp only[ZK,Zx,or_false]at hb
    rcases hb with rfl | rfl
    . exact⟨_,he,fun v q=>by cases q⟩
    . exact⟨o1,e1,fun v q=>by rw[d1]at q;cases q⟩
  keep:=fun i h h' st k=>by
    obtain⟨⟨old,he⟩,h1⟩:=st;exact⟨⟨old,k e (by simp) _ he⟩,h1.at fun o q=>k it (by simp) o q⟩
  item:=by
    intro X hP hw hK hc i pins s σ H E I hf st hg;subst hP hw hK;obtain⟨xs,x,qa,hx⟩:=hg;obtain⟨us,ru,pu,zu⟩:=I.tuple qa
    have hil:i<us.toArray.size:=by
      have:=(Zc.mp hx).1;have:=ru.length;simp;omega
    obtain⟨⟨old,he⟩,h1⟩:=id st;have ltT:∀{c o},s.heap.get? c=some o->c≠s.heap.objs.size:=fun q=>Zs (Heap.lt_size q)
    have hli:l≠it:=fun z=>by
      obtain⟨o,q1,q2,_⟩:=h1;obtain⟨o',q1',q2',_⟩:=pu;rw[z,q1]at q1';cases q1';rw[q2]at q2';exact absurd q2' (by decide)
    have hel:e∉[it,l]:=fun z=>by
      simp only[ZK,Zx,or_false]at z
      rcases z with z | z
      . exact hne z
      . obtain⟨o',q1',q2',_⟩:=pu
        rw[<-z]at q1';have:=he.symm.trans q1'
        injection this with this
        rw[<-this]at q2';exact absurd (show Value.type "enumerate" = Value.type "tuple" from q2') (by decide)
    refine wpAny_pyNext_enum_itemD (zdw (A:=X.A.in1) (I.ok.hd hc) it l hli us.toArray) he ⟨h1,pu⟩ hil hne hel fun u h' tk hPx a1 a2 a3 a4 hk => ?_
    have rxu:RelV x u:=by
      obtain⟨u',hu',r'⟩:=ru.get hx;have:us.toArray[i]? = some u':=by simpa using hu'
      rw[this]at hPx;cases hPx;exact r'
    have hit1:it≠s.heap.objs.size:=by obtain⟨_,q,_⟩:=h1;exact ltT q
    have hTe:s.heap.objs.size≠e:=Ne.symm (ltT he);refine⟨_,rfl,wpAny_letOwnedTupleGo_enum (s:={ s with heap:=h',toks:=tk+1 }) a1 fun h'' b1 sb => ?_⟩
    have I1:Inv X pins σ (upd H s.heap.objs.size (.tup [.int i,x])) { s with heap:=h'',toks:=tk+1 }:=I.turnedLaid (ch:=[e,it]) hf (fun b o hb q=>by
      simp only[ZK,Zx,or_false,not_or]at hb
      exact sb.extBut b o hb.1 (hk b o hb.1 hb.2 q)) (Zm _) ⟨by show 2<=sizeLine;decide,[.int i tk,u],.cons ⟨_,rfl⟩ (.cons rxu .nil),by
        have q:=sb.extBut _ _ hTe a3
        exact⟨_,q,rfl,_,rfl,rfl⟩⟩
    refine⟨.ref s.heap.objs.size,_,I1,rfl,⟨s.heap.objs.size,x,rfl,I.hok.fresh (Zm _),rfl,fun xs' q1 => ?_⟩,?_,fun b hb => ?_⟩
    . rw[I.tuple_inj q1 qa]
      exact hx
    . refine⟨⟨u,?_⟩,a2.1.extBut sb.extBut (Ne.symm hne)⟩
      have z:((i+1:Nat):Int)=(i:Int)+1:=by omega
      rw[z];exact b1
    . have hb':=(hf b hb).1
      rw[zp ?_]
      . exact hb'
      . simp only[ZK,Zx,or_false]at hb
        rcases hb with rfl | rfl
        . exact Ne.symm hTe
        . exact hit1
  done:=by
    intro X hP hw hK hc i pins s σ H E I hf st hg;subst hP hw hK;obtain⟨xs,qa,hend⟩:=hg;obtain⟨us,ru,pu,zu⟩:=I.tuple qa;obtain⟨⟨old,he⟩,h1⟩:=id st;have l1':=ru.length;obtain⟨f0,f1,f2,f3,f4,f5⟩:=hf it (by simp);have hT:s.TypeIs (.ref e) "enumerate" := ⟨_,he,rfl⟩;unfold pyNext
    refine wpAny_bind (wpAny_attempt (wpAny_callSpecial?_slot (name:=Str.ofString "__next__") hT F.slot_enumerate_next
      (wpAny_call_entry F.slot_enumerate_next hT F.entry_enumerate_next ?_ (F.args_enumerate_next_1 _))))
    show wpAny _ _ (field (.ref e) 2 >>= _) _ _ _
    refine wpAny_bind (wpAny_field he rfl (x:=.ref it) rfl ?_);refine wpAny_bind (rc (I.ok.hd hc) h1 (cq pu) (by simp;omega) fun h' x he' hx' => ?_);obtain⟨o,ho,hcl⟩:=hx';refine wpAny_bind (wpAny_isInstance (T := "StopIteration") (b:=true) ⟨o,ho,hcl⟩ isSubtype_stop ?_);exact wpAny_pure ⟨rfl,I.turned (t':=s.toks) (fun b o hb q=>he' b o hb q) f0 f1 f3 f4 f5⟩
  self:=fun _ _ _ _ _ st h=>by
    obtain⟨⟨old,he⟩,_⟩:=st;exact wpAny_pyIter_enum he h
def zhn(K:Fg)(ta:TA):TI:=fun σ H R=>ta σ H fun vs H1=>∃a,vs=[.ref a]/\(∃xs,SqT K H1 a xs)/\R (ItT K a) H1
theorem zlo{K:Fg}{ta:TA}{σ:St}{H:Hp}{R:It->Hp->Prop}:zhn K ta σ H R=ta σ H fun vs H1=>∃a,vs=[.ref a]/\(∃xs,SqT K H1 a xs)/\R (ItT K a) H1:=rfl
theorem zkj {X:Cx} {a:Expr} {ta:TA} {p pos tpos:Pos} {elts:List Expr} {x1:Nat} (hg:Gl X "enumerate") (hm:X.mg "enumerate" = none) (ha:PA X [a] ta) (hs:starEach [a] X.env=[(false,eval a X.env)]:=by rfl) :
    PI X (.Tuple elts x1 tpos) (.Call (.Name "enumerate" p) [a] [] pos) (zhn X.K ta):=by
  intro pins s σ H R I h;refine Call_ (ud I hg hm fr (PyProof.Rows.callWith_type1 (thn (ha pos pins s σ H _ I h) fun us s1 ⟨vs,H1,I1,r1,q1⟩ => ?_) hs rfl));obtain⟨a,e,⟨xs,qa⟩,q⟩:=q1;subst e;obtain⟨u,rfl,ru⟩:=Vals.one r1;cases ru;obtain⟨its,_,pa,_⟩:=I1.tuple qa;refine gk pa fun h' z1 z2 z3 kp => ?_
  refine wpAny_pyIter_enum (s:={ s1 with heap:=h' }) z1 ?_;have I2:Inv X pins σ H1 { s1 with heap:=h' }:=I1.kept (t':=s1.toks) kp;refine⟨s1.heap.objs.size+1,[s1.heap.objs.size+1,s1.heap.objs.size],_,_,H1,rfl,I2,zfw _ _ a 0 (by show(_:Nat)≠_;omega),⟨⟨_,z1⟩,z2⟩,fun c hc => ?_,q⟩
  have hle:s1.heap.objs.size<=c:=by
    simp only[ZK,Zx,or_false]at hc
    rcases hc with h | h <;> (rw[h];omega)
  exact I1.fpOk hle (I1.hok.fresh hle)
section
variable{σ:St}{k:Nat}{g:TG}{tt:TT}{te:TE}{H1:Hp}{Fin:List V->Hp->Prop}
theorem zg5{K:Fg}{a:Addr}{xs:List V}(Pv:Nat->List V->Hp->Prop)(h0:Pv 0 [] H1)(hz:∀i ys H,i<=xs.length->Pv i ys H->ys.length<=sizeLine/\SqT K H a xs)
    (hs:∀i x ys H T,xs[i]? = some x->H T=none->Pv i ys H->g (.ref T) (List.replicate k none++σ) (upd H T (.tup [.int i,x])) fun σ2 H2=>σ2.drop k=σ/\tt σ2 H2 fun b H3=>if b=true then te σ2 H3 fun v H4=>Pv (i+1) (ys++[v]) H4 else Pv (i+1) ys H3)
    (hd:∀ys H,Pv xs.length ys H->Fin ys H):sk (ItT K a) σ k g tt te H1 Fin:=by
  refine⟨fun i m ys H=>m=xs.length-i/\i<=xs.length/\Pv i ys H,⟨xs.length,by simp,ZE _,h0⟩,?_⟩
  rintro i m ys H ⟨rfl,hi,p⟩
  obtain⟨q0,qa⟩:=hz i ys H hi p;refine⟨q0,?_⟩
  by_cases hlt:i<xs.length
  . refine .inr ⟨⟨xs,xs[i],qa,by simp[hlt]⟩,Pv (i+1),fun ys' H' p'=>⟨xs.length-(i+1),by omega,rfl,hlt,p'⟩,fun x H' y => ?_⟩
    obtain⟨T,x',rfl,hT,rfl,hy⟩:=y;exact hs i x' ys _ T (hy xs qa) hT p
  . have e:i=xs.length:=by omega
    subst e;exact .inl ⟨⟨xs,qa,Zm _⟩,hd ys H p⟩
end
end L2
namespace L2
open PySem PySem.Spec PyProof.Rows
section
variable{X:Cx}{c e:Expr}{te:TE}{x:Str}{p2 pos:Pos}
end
section
variable{X:Cx}
end
end L2
namespace L2
open PySem PySem.Spec PyProof.Rows
theorem Inv.thaw{X:Cx}{pins:List (Addr×Obj)}{σ:St}{H:Hp}{s:Shared}{d:Addr}{o:Obj}{u:HO}(I:Inv X pins σ H s)(hd:H d=some (.frz o u))(h0:∀o u,X.H₀ d≠some (.frz o u)):Inv X pins σ (upd H d u) s:=by
  have nd:∀b,H b=none->b≠d:=fun b e z=>by rw[z,hd]at e;cases e
  have ht:∀b xs,H b=some (.tup xs)->upd H d u b=some (.tup xs):=fun b xs e=>by
    rw[zp (fun z=>by rw[z,hd]at e;cases e)];exact e
  have hw:∀b a,H b=some (.own a)->upd H d u b=some (.own a):=fun b a e=>by
    rw[zp (fun z=>by rw[z,hd]at e;cases e)];exact e
  refine⟨I.ok,I.os,I.bare,⟨I.base.keep,I.base.slot,fun b ob e n hx => ?_,I.base.there,fun b xs e=>ht b xs (I.base.tups b xs e),fun b ob v e => ?_,fun b ps e => ?_⟩,I.loc,I.cell,?_,fun x c e => ?_,fun p hp => ?_,fun b ob e => ?_,I.len⟩
  . have:=I.base.free b ob e n hx
    rw[zp (nd b this)];exact this
  . have:=I.base.frzs b ob v e
    rw[zp (fun z=>by rw[z]at e;exact h0 _ _ e)];exact this
  . obtain⟨more,h⟩:=I.base.tbls b ps e
    refine⟨more,?_⟩;rw[zp (fun z=>by rw[z,hd]at h;cases h)];exact h
  . rw[zp (nd _ I.free)]
    exact I.free
  . have:=I.freeC x c e
    rw[zp (nd _ this)];exact this
  . obtain⟨h1,h2,h3⟩:=I.pin p hp
    exact⟨h1,by rw[zp (nd _ h2)];exact h2,h3⟩
  . by_cases z:b=d
    . subst z
      rw[zd]at e;cases e;exact(show ObjOk X.prog X.w H s.heap b (.frz o u) from I.hok b _ hd).2.stay (fun c w _ q=>q) (fun c q=>hw c b q) ht
    . rw[zp z]at e
      exact(I.hok b ob e).stay (fun c w _ q=>q) (fun c q=>hw c b q) ht
def Iti(a:Addr)(ob:Obj)(kvs:List (Key×V)):It :=
  ⟨fun i H=>H a=some (.frz ob (.dK kvs))/\i<kvs.length,fun i H v H'=>∃T kv,kvs[i]? = some kv/\v=.ref T/\H T=none/\H'=upd H T (.tup [kV kv.1,kv.2]),fun i H=>H a=some (.frz ob (.dK kvs))/\kvs.length<=i⟩
theorem is_kV{P:Program}{w:World}{k:Key}{u:Value}(h:(yq P w).is k u=true):RelV (kV k) u:=by
  rw[zgb]at h
  rcases wv h with ⟨i,t,rfl,rfl⟩ | ⟨x,t,rfl,rfl⟩
  . exact⟨t,rfl⟩
  . exact⟨t,rfl⟩
theorem e6{P:Program}{w:World}{h:Heap}{d:Addr}{vs:List (Key×Value)}{o:Obj}{es:Array DictEntry}{ep:Nat}(hD:h.DictOf (yq P w) d vs)(ho:h.get? d=some o)(hd:o.data=.dict es ep):h.DictAt (yq P w) d vs ep:=by
  obtain⟨o',es',ep',h1,h2,h3,h4⟩:=hD;rw[ho]at h1;cases h1;rw[hd]at h3;cases h3;exact⟨o,es,ho,h2,hd,h4⟩
theorem zi9:∀{kvs:List (Key×V)} {vs:List (Key×Value)} {i:Nat} {p:Key×V} {k:Key} {v:Value},KV kvs vs->kvs[i]? = some p->vs[i]? = some (k,v)->p.1=k/\RelV p.2 v
  | _,_,i,p,k,v,.cons h t,e1,e2=>by
    cases i with
    | zero =>
      simp at e1 e2;subst e1;rw[e2]at h;exact h
    | succ i=>exact zi9 t (by simpa using e1) (by simpa using e2)
  | _,_,i,p,k,v,.nil,e1,e2=>by simp at e1
theorem zf9{P:Program}{w:World}{K:Fg}{elts:List Expr}{x1:Nat}{pos:Pos}{a it:Addr}{ob:Obj}{kvs:List (Key×V)}{es:Array DictEntry}{ep n:Nat}(hd:ob.data=.dict es ep)(hn:n=kvs.length) :
    Turn P w K (.Tuple elts x1 pos) (Iti a ob kvs) [it] it (fun i h=>∃ok ov,IsItemIter h it a i n ep ok ov) where
  mem:=by simp
  obj:=fun i h st b hb=>by
    have e:b=it:=by simpa using hb
    subst e;obtain⟨ok,ov,e⟩:=st;exact⟨_,e,fun v z=>by cases z⟩
  keep:=fun i h h' st k=>by
    obtain⟨ok,ov,e⟩:=st;exact⟨ok,ov,k it (by simp) _ e⟩
  item:=by
    intro X hP hw hK hc i pins s σ H E I hf st hg;subst hP hw hK;obtain⟨h1,h2⟩:=hg;obtain⟨ok,ov,hit⟩:=st;obtain⟨ho,z,hs,vs,rel,hD⟩:=(show ObjOk X.prog X.w H s.heap a (.frz ob (.dK kvs)) from I.hok a _ h1);have hA:=e6 hD ho hd;have lv:vs.length=kvs.length:=rel.length.symm;have ek:kvs[i]? = some kvs[i]:=Zb h2;obtain⟨k,v,ev⟩:∃k v,vs[i]? = some (k,v):=⟨_,_,Zb (by omega)⟩;obtain⟨e1,e2⟩:=zi9 rel ek ev;rw[hn,<-lv]at hit;refine wpAny_pyNext_items_item hit hA ev fun key h' hkey a1 a3 a4 hk => ?_
    have ltT:∀{c o},s.heap.get? c=some o->c≠s.heap.objs.size:=fun q=>Zs (Heap.lt_size q)
    have hTe:s.heap.objs.size≠it:=Ne.symm (ltT hit);refine⟨_,rfl,wpAny_letOwnedTupleGo_items (s:={ s with heap:=h' }) a1 fun h'' b1 sb => ?_⟩
    replace sb:Heap.SameBut it h' h'':=sb
    have I1:Inv X pins σ (upd H s.heap.objs.size (.tup [kV kvs[i].1,kvs[i].2])) { s with heap:=h'' }:=I.turnedLaid (t':=s.toks) (ch:=[it]) hf (fun b o hb q=>by
      simp only[ZK,Zx,or_false]at hb
      exact sb.extBut b o hb (hk b o hb q)) (Zm _) ⟨by show 2<=sizeLine;decide,[key,v],.cons (by rw[e1];exact is_kV hkey) (.cons e2 .nil),by
        have q:=sb.extBut _ _ hTe a3
        exact⟨_,q,rfl,_,rfl,rfl⟩⟩
    refine⟨.ref s.heap.objs.size,_,I1,rfl,⟨s.heap.objs.size,kvs[i],ek,rfl,I.hok.fresh (Zm _),rfl⟩,⟨key,v,by rw[hn,<-lv];exact b1⟩,fun b hb => ?_⟩;have hb':=(hf b hb).1;rw[zp ?_]
    . exact hb'
    . have e:b=it:=by simpa using hb
      rw[e];exact Ne.symm hTe
  done:=by
    intro X hP hw hK hc i pins s σ H E I hf st hg;subst hP hw hK;obtain⟨h1,h2⟩:=hg;obtain⟨ok,ov,hit⟩:=st;obtain⟨ho,z,hs,vs,rel,hD⟩:=(show ObjOk X.prog X.w H s.heap a (.frz ob (.dK kvs)) from I.hok a _ h1);have hA:=e6 hD ho hd;have lv:vs.length=kvs.length:=rel.length.symm;rw[hn,<-lv]at hit;obtain⟨f0,f1,f2,f3,f4,f5⟩:=hf it (by simp);exact wpAny_pyNext_items_end (I.ok.hd hc) hit hA (Yl (by omega)) fun h' eb=>⟨rfl,I.turned (t':=s.toks) (fun b o hb e=>eb b o hb e) f0 f1 f3 f4 f5⟩
  self:=fun _ _ _ _ _ st h=>by
    obtain⟨ok,ov,hit⟩:=st;exact PySem.W.kcp_self hit h
section
variable{X:Cx}
def zji(tl:TE):TI:=fun σ H R=>tl σ H fun x H1=>∃a kvs,x=.ref a/\H1 a=some (.dK kvs)/\∀ob,R (Iti a ob kvs) (upd H1 a (.frz ob (.dK kvs)))
theorem zls{tl:TE}{σ:St}{H:Hp}{R:It->Hp->Prop}:zji tl σ H R=tl σ H fun x H1=>∃a kvs,x=.ref a/\H1 a=some (.dK kvs)/\∀ob,R (Iti a ob kvs) (upd H1 a (.frz ob (.dK kvs))):=rfl
theorem zjx {o:Expr} {tl:TE} {apos pos tpos:Pos} {elts:List Expr} {x1:Nat} (ho:PE X o tl) (hbase:attributeBase o "items" X.env (eval o X.env)=eval o X.env:=by rfl) (hline:(apos.endLine==pos.line)=true:=by rfl) :
    PI X (.Tuple elts x1 tpos) (.Call (.Attribute o "items" apos) [] [] pos) (zji tl):=by
  intro pins s σ H R I h;refine wpAny_Call_method (T := "dict") (id := "dict.items") hbase rfl hline F.plainAttrs_dict F.slot_dict_items F.type_dict_items (thn (ho pins s σ H _ I h) fun u s1 ⟨x,H1,I1,rx,a,kvs,ex,ha,q⟩ => ?_);subst ex;obtain rfl:u=Value.ref a:=rx;obtain⟨z,hs,vs,rel,hD⟩:=zge I1.hok ha;refine⟨hD.typeIs,hD.mapOf.noDict,?_⟩
  show wpAny _ _ (callWith pos (.builtin "dict.items") [.ref a] [] []) _ _ _
  refine method_meetsIn F.slot_dict_items F.entry_dict_items rfl (PySem.evalArgs_none ⟨rfl,hD.typeIs,F.args_dict_items_1 _,_,meets_dict_items (yq X.prog X.w) a hs,⟨vs,hD⟩,?_⟩);obtain⟨ob,es,ep,ho',hce,hdat,hrest⟩:=id hD;have hA:=e6 hD ho' hdat;have kp:∀(b:Addr) (o:Obj),s1.heap.get? b=some o->(s1.heap.push { cls:=.type "dict_items", data:=.fields #[.ref a] }).get? b=some o:=fun b o e=>Heap.get?_push_of_some _ e
  have I2:Inv X pins σ (upd H1 a (.frz ob (.dK kvs))) s1:=ik (h':=s1.heap) (t':=s1.toks) I1 (by rw[ha];exact True.intro) ⟨rfl,fun _ _=>rfl⟩ ⟨ob,ho'⟩ ⟨ho',z,hs,vs,rel,hD⟩;have I3:Inv X pins σ (upd H1 a (.frz ob (.dK kvs))) { s1 with heap:=s1.heap.push { cls:=.type "dict_items", data:=.fields #[.ref a] } }:=I2.kept (t':=s1.toks) kp;refine wpAny_pyIter_items (d:=a) (kvs:=vs) (ep:=ep) (s:={ s1 with heap:=s1.heap.push { cls:=.type "dict_items", data:=.fields #[.ref a] } }) ⟨_,Heap.get?_push_size _ rfl,rfl,rfl⟩ (hA.at fun o e=>kp _ o e) ?_;have hz:(s1.heap.push { cls:=.type "dict_items", data:=.fields #[.ref a] }).objs.size=s1.heap.objs.size+1:=Heap.size_push ..;refine⟨_,[_],_,_,_,rfl,I3.kept (t':=s1.toks) fun b o e=>Heap.get?_push_of_some _ e,zf9 (n:=vs.length) (ep:=ep) (ob:=ob) hdat rel.length.symm,⟨_,_,Heap.get?_push_size _ rfl⟩,fun b hb => ?_,q ob⟩;have e:b=(s1.heap.push { cls:=.type "dict_items", data:=.fields #[.ref a] }).objs.size:=by simpa using hb
  subst e;exact I3.fpOk (Zm _) (I3.hok.fresh (Zm _))
def tThaw(t:TE):TE:=fun σ H Q=>t σ H fun v H'=>∃d o u kvs,H d=some (.dK kvs)/\H' d=some (.frz o u)/\Q v (upd H' d u)
theorem e_thaw{t:TE}{σ:St}{H:Hp}{Q:VK}:tThaw t σ H Q=t σ H fun v H'=>∃d o u kvs,H d=some (.dK kvs)/\H' d=some (.frz o u)/\Q v (upd H' d u):=rfl
theorem zl3{e:Expr}{t:TE}(he:PE X e t):PE X e (tThaw t):=by
  intro pins s σ H Q I h;refine thn (he pins s σ H _ I h) fun v s1 ⟨x,H1,I1,rx,d,o,u,kvs,h0,h1,q⟩ => ?_
  have I2:Inv X pins σ (upd H1 d u) s1:=I1.thaw h1 (fun o' u' z=>by
    have:=I.base.frzs d o' u' z;rw[h0]at this
    cases this)
  exact⟨x,_,I2,rx,q⟩
end
section
variable{σ:St}{k:Nat}{g:TG}{tt:TT}{te:TE}{H1:Hp}{Fin:List V->Hp->Prop}
theorem zgi{a:Addr}{ob:Obj}{kvs:List (Key×V)}(Pv:Nat->List V->Hp->Prop)(h0:Pv 0 [] H1)(hz:∀i ys H,i<=kvs.length->Pv i ys H->ys.length<=sizeLine/\H a=some (.frz ob (.dK kvs)))
    (hs:∀i kv ys H T,kvs[i]? = some kv->H T=none->Pv i ys H->g (.ref T) (List.replicate k none++σ) (upd H T (.tup [kV kv.1,kv.2])) fun σ2 H2=>σ2.drop k=σ/\tt σ2 H2 fun b H3=>if b=true then te σ2 H3 fun v H4=>Pv (i+1) (ys++[v]) H4 else Pv (i+1) ys H3)
    (hd:∀ys H,Pv kvs.length ys H->Fin ys H):sk (Iti a ob kvs) σ k g tt te H1 Fin:=by
  refine⟨fun i m ys H=>m=kvs.length-i/\i<=kvs.length/\Pv i ys H,⟨kvs.length,by simp,ZE _,h0⟩,?_⟩
  rintro i m ys H ⟨rfl,hi,p⟩
  obtain⟨q0,qa⟩:=hz i ys H hi p;refine⟨q0,?_⟩
  by_cases hlt:i<kvs.length
  . refine .inr ⟨⟨qa,hlt⟩,Pv (i+1),fun ys' H' p'=>⟨kvs.length-(i+1),by omega,rfl,hlt,p'⟩,fun x H' y => ?_⟩
    obtain⟨T,kv,hkv,rfl,hT,rfl⟩:=y;exact hs i kv ys _ T hkv hT p
  . have e:i=kvs.length:=by omega
    subst e;exact .inl ⟨⟨qa,Zm _⟩,hd ys H p⟩
end
end L2
namespace L2
open PySem PySem.Spec PyProof.Rows
section
variable{X:Cx}{e st:Expr}{te:TE}{ts:TO}{pos p2:Pos}
end
section
variable{prog:Program}{w:World}{K:Type}[DecidableEq K]{knd:KeyKind prog w K}{A:Around}{E:Value->Shared->Prop}{s:Shared}
end
end L2
namespace L2
open PySem PySem.Spec PyProof.Rows
def Itv(a:Addr)(o:Obj)(u:HO)(xs:List V):It :=
  ⟨fun i H=>H a=some (.frz o u)/\i<xs.length,fun i H x H'=>H'=H/\xs[i]? = some x,fun i H=>H a=some (.frz o u)/\i=xs.length⟩
theorem zg2{P:Program}{w:World}{K:Fg}{tg:Expr}{a it:Addr}{o:Obj}{u:HO}{xs:List V}{es:Array DictEntry}{ep:Nat}(hx:o.ExactDict)(hd:o.data=.dict es ep)(hn:es.size=xs.length)
    (hk:∀(i:Nat) (e:DictEntry),es[i]? = some e->∃x,xs[i]? = some x/\RelV x e.key):Turn P w K tg (Itv a o u xs) [it] it (fun i h=>h.IsKeyIter it a i es.size ep) where
  mem:=by simp
  obj:=fun i h st b hb=>by
    have e:b=it:=by simpa using hb
    subst e;obtain⟨o,e,c,d⟩:=st;exact⟨o,e,fun v z=>by rw[d]at z;cases z⟩
  keep:=fun i h h' st k=>st.at fun o e=>k it (by simp) o e
  item:=by
    intro X hP hw hK hc i pins s σ H E I hf st hg;subst hP hw hK;obtain⟨h1,h2⟩:=hg;obtain⟨ho,_⟩:=(show ObjOk X.prog X.w H s.heap a (.frz o u) from I.hok a _ h1);obtain⟨f0,f1,f2,f3,f4,f5⟩:=hf it (by simp);refine bg st ⟨o,ho,hx,hd⟩ (by rw[hn];exact h2) fun h' st' sb => ?_
    obtain⟨x,hc1,hc2⟩:=hk i es[i] (by simp);have I1:Inv X pins σ H { s with heap:=h' }:=I.turned (t':=s.toks) (fun b o hb e=>(sb.2 b hb).trans e) f0 f1 f3 f4 f5;obtain⟨o',e,c',d⟩:=id st';exact⟨_,rfl,i4 (s:={ s with heap:=h' }) e c' d (by decide) ⟨x,H,I1,hc2,⟨rfl,hc1⟩,st',fun b hb=>(hf b hb).1⟩⟩
  done:=by
    intro X hP hw hK hc i pins s σ H E I hf st hg;subst hP hw hK;obtain⟨h1,rfl⟩:=hg;obtain⟨ho,_⟩:=(show ObjOk X.prog X.w H s.heap a (.frz o u) from I.hok a _ h1);obtain⟨f0,f1,f2,f3,f4,f5⟩:=hf it (by simp);rw[<-hn]at st;exact zaj (I.ok.hd hc) st ⟨o,ho,hx,hd⟩ fun h' eb=>⟨rfl,I.turned (t':=s.toks) (fun b o hb e=>eb b o hb e) f0 f1 f3 f4 f5⟩
  self:=fun _ _ _ _ _ st h=>wpAny_pyIter_keyiter st h
theorem zbf{P:Program}{w:World}:∀{es:List DictEntry} {vs:List (Key×Value)} {kvs:List (Key×V)},Pairs (yq P w) es vs->KV kvs vs->es.length=kvs.length/\∀(i:Nat) (e:DictEntry),es[i]? = some e->∃x,(kvs.map fun kv=>kV kv.1)[i]? = some x/\RelV x e.key
  | _,_,_,.nil,.nil=>⟨rfl,fun i e h=>by simp at h⟩
  | _,_,_,.cons h1 _ t,.cons h2 r=>by
    obtain⟨ih1,ih2⟩:=zbf t r;refine⟨by simp[ih1],fun i e he => ?_⟩
    cases i with
    | zero =>
      simp at he;subst he;exact⟨_,rfl,by show RelV (kV _) _;rw[h2.1];exact is_kV h1⟩
    | succ i=>exact ih2 i e (by simpa using he)
section
variable{X:Cx}{tg:Expr}
def iDicK(tl:TE):TI:=fun σ H R=>tl σ H fun x H1=>∃a kvs,x=.ref a/\H1 a=some (.dK kvs)/\∀o,R (Itv a o (.dK kvs) (kvs.map fun kv=>kV kv.1)) (upd H1 a (.frz o (.dK kvs)))
theorem zlc{tl:TE}{σ:St}{H:Hp}{R:It->Hp->Prop}:iDicK tl σ H R=tl σ H fun x H1=>∃a kvs,x=.ref a/\H1 a=some (.dK kvs)/\∀o,R (Itv a o (.dK kvs) (kvs.map fun kv=>kV kv.1)) (upd H1 a (.frz o (.dK kvs))):=rfl
theorem zk4{l:Expr}{tl:TE}(hl:PE X l tl):PI X tg l (iDicK tl):=by
  intro pins s σ H R I h;refine thn (hl pins s σ H _ I h) fun v s1 ⟨x,H1,I1,r1,q1⟩ => ?_
  obtain⟨a,kvs,e,ha,q⟩:=q1;subst e;obtain rfl:v=Value.ref a:=r1;obtain⟨z,hd,vs,rel,hD⟩:=zge I1.hok ha;obtain⟨o,es,ep,ho,hce,hdat,hks,hps,nd⟩:=id hD;obtain⟨hsz,hkey⟩:=zbf hps rel;have I2:Inv X pins σ (upd H1 a (.frz o (.dK kvs))) s1:=ik (h':=s1.heap) (t':=s1.toks) I1 (by rw[ha];exact True.intro) ⟨rfl,fun _ _=>rfl⟩ ⟨o,ho⟩ ⟨ho,z,hd,vs,rel,hD⟩;refine cv hd ⟨o,ho,hce,hdat⟩ ?_;refine⟨s1.heap.objs.size,[s1.heap.objs.size],_,_,_,rfl,I2.kept (t':=s1.toks) fun b o e=>Heap.get?_push_of_some _ e,zg2 hce hdat (by rw[Za,<-hsz];simp) (fun i e he=>hkey i e (by simpa using he)),⟨_,Heap.get?_push_size _ rfl,rfl,rfl⟩,fun b hb => ?_,q o⟩;have e:b=s1.heap.objs.size:=by simpa using hb
  subst e;exact I2.fpOk (Zm _) (I2.hok.fresh (Zm _))
theorem zhu{a:Addr}{ob:Obj}{u:HO}{xs:List V}{g:TG}{tb:TS}{D:Ends}{σ:St}{H:Hp}(Pv:Nat->St->Hp->Prop)(h0:Pv 0 σ H)(hl:∀i σ H,i<=xs.length->Pv i σ H->H a=some (.frz ob u))
    (hs:∀i x σ H,xs[i]? = some x->Pv i σ H->g x σ H fun σ2 H2=>tb { D with nx:=Pv (i+1),ct:=Pv (i+1),bk:=D.nx } σ2 H2) (hd:∀σ H,Pv xs.length σ H->D.nx σ H):ForW (Itv a ob u xs) g tb D σ H:=by
  refine⟨fun i m σ H=>m=xs.length-i/\i<=xs.length/\Pv i σ H,⟨xs.length,by simp,ZE _,h0⟩,?_⟩
  rintro i m σ H ⟨rfl,hi,p⟩
  have q:=hl i σ H hi p
  by_cases hlt:i<xs.length
  . refine .inr ⟨⟨q,hlt⟩,Pv (i+1),fun σ' H' p'=>⟨xs.length-(i+1),by omega,rfl,hlt,p'⟩,fun x H' y => ?_⟩
    obtain⟨rfl,hc⟩:=y;exact hs i x σ _ hc p
  . have e:i=xs.length:=by omega
    subst e;exact .inl ⟨⟨q,rfl⟩,hd σ H p⟩
end
section
variable{X:Cx}
def ziq(t:TS):TS:=fun D σ H=>t { D with nx:=fun σ' H'=>∃d o u,(∀o' u',H d≠some (.frz o' u'))/\H' d=some (.frz o u)/\D.nx σ' (upd H' d u) } σ H
theorem zlt{t:TS}{D:Ends}{σ:St}{H:Hp}:ziq t D σ H=t { D with nx:=fun σ' H'=>∃d o u,(∀o' u',H d≠some (.frz o' u'))/\H' d=some (.frz o u)/\D.nx σ' (upd H' d u) } σ H:=rfl
theorem zfr{st:Stmt}{t:TS}(hs:PS X st t):PS X st (ziq t):=by
  intro pins s σ H D I h;refine thn (hs pins s σ H _ I h) fun f s1 q => ?_
  cases f with
  | next =>
    obtain⟨σ',H',I1,d,o,u,h0,h1,q⟩:=q;exact⟨σ',_,I1.thaw h1 (fun o' u' z=>h0 o' u' (I.base.frzs d o' u' z)),q⟩
  | brk=>exact q
  | cont=>exact q
  | ret v=>exact q
end
end L2
namespace Mine
open PySem PySem.Spec PyProof.Rows L2
theorem yp{α β:Type}{g:α->β}{xs:List α}{i:Nat}{x:β}(h:(xs.map g)[i]? = some x):∃y,xs[i]? = some y/\g y=x:=by
  rw[Ze]at h
  cases e:xs[i]? with
  | none=>rw[e]at h;cases h
  | some y=>rw[e]at h;cases h;exact⟨y,rfl,rfl⟩
def zf:=And.intro @zlt (And.intro @zlc (And.intro @zls (And.intro @e_thaw (And.intro @zlo (And.intro @zmb (And.intro @zly (And.intro @zmg (And.intro @e_down (And.intro @xp (And.intro @e_C (And.intro @e_op (And.intro @e_un (And.intro @e_rI (And.intro @xq (And.intro @e_rU (And.intro @xt (And.intro @x6 (And.intro @xx (And.intro @x9 (And.intro @e_set (And.intro @e_cat (And.intro @y4 (And.intro @e_B (And.intro @x0 (And.intro @e_or (And.intro @wb (And.intro @e_andV (And.intro @e_orV (And.intro @e_notV (And.intro @x5 (And.intro @x8 (And.intro @y9 (And.intro @xw (And.intro @e_brk (And.intro @e_cnt (And.intro @y3 (And.intro @xz (And.intro @e_retN (And.intro @xu (And.intro @xy (And.intro @yi (And.intro @e_setC (And.intro @e_augS (And.intro @e_ipI (And.intro @xr (And.intro @y0 (And.intro @wc (And.intro @xv (And.intro @y7 (And.intro @e_CB (And.intro @e_BM (And.intro @e_app (And.intro @y8 (And.intro @e_rng2 (And.intro @e_iL (And.intro @wa (And.intro @y6 (And.intro @cxK (And.intro @e_zip (And.intro @xc (And.intro @yz (And.intro @yl (And.intro @e_rep (And.intro @e_gSub (And.intro @e_slL (And.intro @e_tSl (And.intro @zkk (And.intro @e_part (And.intro @zlv (And.intro @e_BM0 (And.intro @zld (And.intro @e_in (And.intro @e_enum (And.intro @e_minK (And.intro @zlr (And.intro @zl1 (And.intro @zli (And.intro @e_try0 (And.intro @suK (And.intro @noxK (And.intro @tryK (And.intro @e_eqD (And.intro @e_inD (And.intro @e_iStr (And.intro @e_mulS (And.intro @e_ixS (And.intro @e_join (And.intro @e_iT (And.intro @e_iSeq (And.intro @e_tupL (And.intro @e_minL (And.intro @e_maxL (And.intro @zk0 (And.intro @e_leS (And.intro @e_vI0 (And.intro @e_vI (And.intro @e_ints (And.intro @e_isB (And.intro @e_catH (And.intro @zjz (And.intro @e_slH (And.intro @e_slT (And.intro @zkt (And.intro @zky (And.intro @e_inK (And.intro @e_setD (And.intro @zlq (And.intro @e_dget (And.intro @e_zip2 (And.intro @e_BMT (And.intro @zlw (And.intro @e_maxK (@e_dg1)))))))))))))))))))))))))))))))))))))))))))))))))))))))))))))))))))))))))))))))))))))))))))))))))))))))))))))))))
def ze:=And.intro @ZM.{0} (And.intro @Yq.{0} (And.intro @Nat.zero_add (And.intro @Xc.{0} (And.intro @List.replicate_zero.{0} (And.intro @List.drop_succ_cons.{0} (And.intro @Xd.{0} (And.intro @Int.zero_add (And.intro @List.getElem?_cons_zero.{0} (And.intro @YM.{0} (And.intro @List.set_cons_zero.{0} (And.intro @List.set_cons_succ.{0} (And.intro @Option.some.injEq.{0} (And.intro @V.int.injEq (And.intro @V.ref.injEq (And.intro @V.bl.injEq (And.intro @V.ty.injEq (And.intro @V.str.injEq (And.intro @List.cons.injEq.{0} (And.intro @Ye.{0} (And.intro @ZV.{0} (And.intro @ZT.{0} (And.intro @exists_eq.{1} (And.intro @exists_eq'.{1} (And.intro @exists_eq_left.{1} (And.intro @exists_eq_left'.{1} (And.intro @exists_and_left.{1} (And.intro @exists_and_right.{1} (And.intro @and_assoc (And.intro @true_and (@and_true))))))))))))))))))))))))))))))
def top(i:Nat):Stmt:=PySem.Challenge.pw_trueword_k49_whole_payable_by_menus.main.body.getD i (.Pass ⟨0,0,0,0⟩)
abbrev mr:Stmt:=top 7
theorem zd9:zr ["thing"] ["thing"] (zk mr):=⟨rfl,rfl,rfl,by decide +kernel,rfl,by decide +kernel,by decide +kernel⟩
abbrev qe:Stmt:=top 8
theorem zbz:zr ["thing"] ["thing"] (zk qe):=⟨rfl,rfl,rfl,by decide +kernel,rfl,by decide +kernel,by decide +kernel⟩
abbrev ra:Stmt:=top 9
theorem zan:zr ["thing", "width"] ["thing", "width"] (zk ra):=⟨rfl,rfl,rfl,by decide +kernel,rfl,by decide +kernel,by decide +kernel⟩
abbrev ay:Stmt:=top 10
theorem zl5:zr ["grid", "s", "t"] ["grid", "s", "t"] (zk ay):=⟨rfl,rfl,rfl,by decide +kernel,rfl,by decide +kernel,by decide +kernel⟩
abbrev zah:Stmt:=top 11
theorem zmo:zr ["grid", "pays", "t", "s"] ["grid", "pays", "t", "s"] (zk zah):=⟨rfl,rfl,rfl,by decide +kernel,rfl,by decide +kernel,by decide +kernel⟩
abbrev r6:Stmt:=top 12
theorem sc_first_gain:zr ["grid", "pays", "t", "s", "more"] ["grid", "pays"] (zk r6):=⟨rfl,rfl,rfl,by decide +kernel,rfl,by decide +kernel,by decide +kernel⟩
abbrev ju:Stmt:=top 18
theorem zg0:zr ["thing"] ["thing"] (zk ju):=⟨rfl,rfl,rfl,by decide +kernel,rfl,by decide +kernel,by decide +kernel⟩
abbrev pj:Stmt:=top 19
theorem zcj:zr ["thing", "most"] ["thing", "most"] (zk pj):=⟨rfl,rfl,rfl,by decide +kernel,rfl,by decide +kernel,by decide +kernel⟩
abbrev qm:Stmt:=top 20
theorem zbw:zr ["thing", "height", "width"] ["thing", "height", "width"] (zk qm):=⟨rfl,rfl,rfl,by decide +kernel,rfl,by decide +kernel,by decide +kernel⟩
abbrev jk:Stmt:=top 21
theorem zga:zr ["thing", "width"] ["thing", "width"] (zk jk):=⟨rfl,rfl,rfl,by decide +kernel,rfl,by decide +kernel,by decide +kernel⟩
abbrev ja:Stmt:=top 22
theorem zgp:zr ["hand"] ["hand"] (zk ja):=⟨rfl,rfl,rfl,by decide +kernel,rfl,by decide +kernel,by decide +kernel⟩
abbrev m5:Stmt:=top 23
theorem zej:zr ["hands"] ["hands"] (zk m5):=⟨rfl,rfl,rfl,by decide +kernel,rfl,by decide +kernel,by decide +kernel⟩
abbrev vx:Stmt:=top 24
theorem km:zr ["hand"] ["hand"] (zk vx):=⟨rfl,rfl,rfl,by decide +kernel,rfl,by decide +kernel,by decide +kernel⟩
abbrev vn:Stmt:=top 25
theorem md:zr ["hand"] ["hand"] (zk vn):=⟨rfl,rfl,rfl,by decide +kernel,rfl,by decide +kernel,by decide +kernel⟩
abbrev oi:Stmt:=top 26
theorem zc5:zr ["hand", "word"] ["hand", "word"] (zk oi):=⟨rfl,rfl,rfl,by decide +kernel,rfl,by decide +kernel,by decide +kernel⟩
abbrev u3:Stmt:=top 27
theorem sc_count_of_rows:zr ["hands", "count", "hand"] ["hands"] (zk u3):=⟨rfl,rfl,rfl,by decide +kernel,rfl,by decide +kernel,by decide +kernel⟩
abbrev su:Stmt:=top 28
theorem zar:zr ["outcomes", "hands"] ["outcomes", "hands"] (zk su):=⟨rfl,rfl,rfl,by decide +kernel,rfl,by decide +kernel,by decide +kernel⟩
abbrev pi:Stmt:=top 29
theorem sc_kept_hand:zr ["hand", "worths"] ["hand"] (zk pi):=⟨rfl,rfl,rfl,by decide +kernel,rfl,by decide +kernel,by decide +kernel⟩
abbrev ml:Stmt:=top 30
theorem zel:zr ["outcomes", "hands"] ["outcomes", "hands"] (zk ml):=⟨rfl,rfl,rfl,by decide +kernel,rfl,by decide +kernel,by decide +kernel⟩
abbrev rb:Stmt:=top 31
theorem zaq:zr ["house"] ["house"] (zk rb):=⟨rfl,rfl,rfl,by decide +kernel,rfl,by decide +kernel,by decide +kernel⟩
abbrev my:Stmt:=top 32
theorem zdx:zr ["house"] ["house"] (zk my):=⟨rfl,rfl,rfl,by decide +kernel,rfl,by decide +kernel,by decide +kernel⟩
abbrev px:Stmt:=top 33
theorem sc_with_each:zr ["rows", "words", "longer", "row"] ["rows", "words"] (zk px):=⟨rfl,rfl,rfl,by decide +kernel,rfl,by decide +kernel,by decide +kernel⟩
abbrev pw:Stmt:=top 34
theorem sc_rows_over:zr ["hands", "rows", "hand"] ["hands"] (zk pw):=⟨rfl,rfl,rfl,by decide +kernel,rfl,by decide +kernel,by decide +kernel⟩
abbrev ji:Stmt:=top 35
theorem zgs:zr ["house"] ["house"] (zk ji):=⟨rfl,rfl,rfl,by decide +kernel,rfl,by decide +kernel,by decide +kernel⟩
abbrev jf:Stmt:=top 36
theorem zgw:zr ["things", "k"] ["things", "k"] (zk jf):=⟨rfl,rfl,rfl,by decide +kernel,rfl,by decide +kernel,by decide +kernel⟩
abbrev oh:Stmt:=top 37
theorem zcs:zr ["house", "k"] ["house", "k"] (zk oh):=⟨rfl,rfl,rfl,by decide +kernel,rfl,by decide +kernel,by decide +kernel⟩
abbrev mz:Stmt:=top 38
theorem zeg:zr ["others", "k", "word"] ["others", "k", "word"] (zk mz):=⟨rfl,rfl,rfl,by decide +kernel,rfl,by decide +kernel,by decide +kernel⟩
abbrev mj:Stmt:=top 40
theorem zd8:zr ["walk"] ["walk"] (zk mj):=⟨rfl,rfl,rfl,by decide +kernel,rfl,by decide +kernel,by decide +kernel⟩
abbrev mm:Stmt:=top 41
theorem zd0:zr ["walk"] ["walk"] (zk mm):=⟨rfl,rfl,rfl,by decide +kernel,rfl,by decide +kernel,by decide +kernel⟩
abbrev vq:Stmt:=top 42
theorem iu:zr ["grid", "s"] ["grid", "s"] (zk vq):=⟨rfl,rfl,rfl,by decide +kernel,rfl,by decide +kernel,by decide +kernel⟩
abbrev qi:Stmt:=top 43
theorem sc_least_to:zr ["grid", "walks", "t", "longer"] ["grid", "walks", "t"] (zk qi):=⟨rfl,rfl,rfl,by decide +kernel,rfl,by decide +kernel,by decide +kernel⟩
abbrev u9:Stmt:=top 44
theorem gy:zr ["grid", "walks"] ["grid", "walks"] (zk u9):=⟨rfl,rfl,rfl,by decide +kernel,rfl,by decide +kernel,by decide +kernel⟩
abbrev tu:Stmt:=top 45
theorem av:zr ["grid", "totals", "t"] ["grid", "totals", "t"] (zk tu):=⟨rfl,rfl,rfl,by decide +kernel,rfl,by decide +kernel,by decide +kernel⟩
abbrev qf:Stmt:=top 46
theorem sc_has_honest:zr ["grid", "totals", "size"] ["grid"] (zk qf):=⟨rfl,rfl,rfl,by decide +kernel,rfl,by decide +kernel,by decide +kernel⟩
abbrev vt:Stmt:=top 47
theorem sc_closed_below_zero:zr ["rows", "s", "walks"] ["rows"] (zk vt):=⟨rfl,rfl,rfl,by decide +kernel,rfl,by decide +kernel,by decide +kernel⟩
abbrev ar:Stmt:=top 48
theorem sc_ring:zr ["grid", "rows", "size", "found"] ["grid"] (zk ar):=⟨rfl,rfl,rfl,by decide +kernel,rfl,by decide +kernel,by decide +kernel⟩
abbrev sy:Stmt:=top 50
theorem zaw:zr ["grid"] ["grid"] (zk sy):=⟨rfl,rfl,rfl,by decide +kernel,rfl,by decide +kernel,by decide +kernel⟩
abbrev ge:Stmt:=top 51
theorem zik:zr ["walk", "longer"] ["walk", "longer"] (zk ge):=⟨rfl,rfl,rfl,by decide +kernel,rfl,by decide +kernel,by decide +kernel⟩
abbrev sw:Stmt:=top 52
theorem sc_least_roads:zr ["grid", "walks", "size"] ["grid", "walks"] (zk sw):=⟨rfl,rfl,rfl,by decide +kernel,rfl,by decide +kernel,by decide +kernel⟩
abbrev m6:Stmt:=top 54
theorem sc_greatest:zr ["grid", "walks"] ["grid"] (zk m6):=⟨rfl,rfl,rfl,by decide +kernel,rfl,by decide +kernel,by decide +kernel⟩
abbrev qt:Stmt:=top 56
theorem zbt:zr ["house", "thing"] ["house", "thing"] (zk qt):=⟨rfl,rfl,rfl,by decide +kernel,rfl,by decide +kernel,by decide +kernel⟩
abbrev tq:Stmt:=top 57
theorem sc_dealt_places:zr ["house", "table", "k", "others", "rows"] ["house", "table", "k", "others"] (zk tq):=⟨rfl,rfl,rfl,by decide +kernel,rfl,by decide +kernel,by decide +kernel⟩
abbrev ph:Stmt:=top 58
theorem zdd:zr ["worths", "places"] ["worths", "places"] (zk ph):=⟨rfl,rfl,rfl,by decide +kernel,rfl,by decide +kernel,by decide +kernel⟩
abbrev jq:Stmt:=top 59
theorem sc_grid_of:zr ["house", "table", "k", "others", "places"] ["house", "table", "k", "others"] (zk jq):=⟨rfl,rfl,rfl,by decide +kernel,rfl,by decide +kernel,by decide +kernel⟩
abbrev jr:Stmt:=top 61
theorem zfu:zr ["offer"] ["offer"] (zk jr):=⟨rfl,rfl,rfl,by decide +kernel,rfl,by decide +kernel,by decide +kernel⟩
abbrev qj:Stmt:=top 62
theorem zb0:zr ["offer"] ["offer"] (zk qj):=⟨rfl,rfl,rfl,by decide +kernel,rfl,by decide +kernel,by decide +kernel⟩
abbrev ac:Stmt:=top 63
theorem sc_pick:zr ["house", "k", "menu", "word", "worths", "offers"] ["house", "k", "menu", "word"] (zk ac):=⟨rfl,rfl,rfl,by decide +kernel,rfl,by decide +kernel,by decide +kernel⟩
abbrev js:Stmt:=top 64
theorem sc_menu_of:zr ["house", "table", "k", "others", "pays", "places"] ["house", "table", "k", "others"] (zk js):=⟨rfl,rfl,rfl,by decide +kernel,rfl,by decide +kernel,by decide +kernel⟩
abbrev jh:Stmt:=top 65
theorem zgh:zr ["house", "thing"] ["house", "thing"] (zk jh):=⟨rfl,rfl,rfl,by decide +kernel,rfl,by decide +kernel,by decide +kernel⟩
abbrev oa:Stmt:=top 66
theorem sc_are_menus:zr ["house", "k", "thing", "rows"] ["house", "k", "thing"] (zk oa):=⟨rfl,rfl,rfl,by decide +kernel,rfl,by decide +kernel,by decide +kernel⟩
abbrev sm:Stmt:=top 67
theorem zam:zr ["house", "k", "menus"] ["house", "k", "menus"] (zk sm):=⟨rfl,rfl,rfl,by decide +kernel,rfl,by decide +kernel,by decide +kernel⟩
abbrev mx:Stmt:=top 69
theorem sc_grids_of:zr ["house", "table", "grids", "k"] ["house", "table"] (zk mx):=⟨rfl,rfl,rfl,by decide +kernel,rfl,by decide +kernel,by decide +kernel⟩
abbrev e7:Stmt:=top 70
theorem sc_paper:zr ["k", "others", "grid", "told"] ["k", "others", "grid"] (zk e7):=⟨rfl,rfl,rfl,by decide +kernel,rfl,by decide +kernel,by decide +kernel⟩
abbrev jo:Stmt:=top 71
theorem sc_verdict:zr ["house", "table", "papers", "k", "others", "grid", "found"] ["house", "table"] (zk jo):=⟨rfl,rfl,rfl,by decide +kernel,rfl,by decide +kernel,by decide +kernel⟩
abbrev sr:Stmt:=top 73
theorem zau:zr ["script", "k"] ["script", "k"] (zk sr):=⟨rfl,rfl,rfl,by decide +kernel,rfl,by decide +kernel,by decide +kernel⟩
abbrev ya:Stmt:=top 74
theorem sc_law_pool:zr ["cell", "many", "letters", "number", "filler", "begin", "step", "size", "place", "front", "back"] ["cell", "many"] (zk ya):=⟨rfl,rfl,rfl,by decide +kernel,rfl,by decide +kernel,by decide +kernel⟩
abbrev om:Stmt:=top 75
theorem sc_law_drawn:zr ["script", "k", "many", "cell", "number"] ["script", "k"] (zk om):=⟨rfl,rfl,rfl,by decide +kernel,rfl,by decide +kernel,by decide +kernel⟩
abbrev pp:Stmt:=top 76
theorem zch:zr ["cell"] ["cell"] (zk pp):=⟨rfl,rfl,rfl,by decide +kernel,rfl,by decide +kernel,by decide +kernel⟩
abbrev p8:Stmt:=top 77
theorem sc_law_parts:zr ["script", "tops", "first", "shape", "outcomes", "hands", "k", "j", "size", "words", "worths", "word"] ["script", "tops"] (zk p8):=⟨rfl,rfl,rfl,by decide +kernel,rfl,by decide +kernel,by decide +kernel⟩
abbrev mq:Stmt:=top 78
theorem sc_law_rows:zr ["hands", "rows", "hand", "grown", "row"] ["hands"] (zk mq):=⟨rfl,rfl,rfl,by decide +kernel,rfl,by decide +kernel,by decide +kernel⟩
abbrev oj:Stmt:=top 79
theorem sc_law_score:zr ["hands", "row", "weights", "place", "score", "j", "t"] ["hands", "row", "weights", "place"] (zk oj):=⟨rfl,rfl,rfl,by decide +kernel,rfl,by decide +kernel,by decide +kernel⟩
abbrev qc:Stmt:=top 80
theorem sc_law_places:zr ["script", "outcomes", "hands", "mode", "weights", "gifts", "places", "row", "place", "sums", "i", "cell"] ["script", "outcomes", "hands"] (zk qc):=⟨rfl,rfl,rfl,by decide +kernel,rfl,by decide +kernel,by decide +kernel⟩
abbrev p9:Stmt:=top 81
theorem sc_law_table:zr ["outcomes", "places", "table", "row"] ["outcomes", "places"] (zk p9):=⟨rfl,rfl,rfl,by decide +kernel,rfl,by decide +kernel,by decide +kernel⟩
abbrev sv:Stmt:=top 82
theorem sc_law_refused:zr ["house", "table", "k", "others", "refused"] ["house", "table", "k", "others"] (zk sv):=⟨rfl,rfl,rfl,by decide +kernel,rfl,by decide +kernel,by decide +kernel⟩
abbrev m4:Stmt:=top 83
theorem zeh:zr ["outcomes", "worths", "menu", "outcome"] ["outcomes", "worths", "menu", "outcome"] (zk m4):=⟨rfl,rfl,rfl,by decide +kernel,rfl,by decide +kernel,by decide +kernel⟩
abbrev so:Stmt:=top 84
theorem sc_law_as_good:zr ["outcomes", "hand", "k", "table", "other", "menus", "row", "menu", "worths", "gain_v", "outcome"] ["outcomes", "hand", "k", "table", "other", "menus"] (zk so):=⟨rfl,rfl,rfl,by decide +kernel,rfl,by decide +kernel,by decide +kernel⟩
abbrev dn:Stmt:=top 85
theorem sc_law:zr ["script", "outcomes", "hands", "house", "table", "found", "k", "menus", "others", "other"] ["script"] (zk dn):=⟨rfl,rfl,rfl,by decide +kernel,rfl,by decide +kernel,by decide +kernel⟩
structure Bt(mg:Str->Option Value):Prop where
  «abs» : mg "abs" = none
  «all» : mg "all" = none
  «bool» : mg "bool" = none
  «dict» : mg "dict" = none
  «enumerate» : mg "enumerate" = none
  «int» : mg "int" = none
  «isinstance» : mg "isinstance" = none
  «len» : mg "len" = none
  «list» : mg "list" = none
  «max» : mg "max" = none
  «min» : mg "min" = none
  «range» : mg "range" = none
  «set» : mg "set" = none
  «str» : mg "str" = none
  «tuple» : mg "tuple" = none
  «zip» : mg "zip" = none
  k_MOST_WORDS:∃t,mg "MOST_WORDS" = some (Value.int 8 t)
  k_MOST_LETTERS:∃t,mg "MOST_LETTERS" = some (Value.int 8 t)
  k_MOST_OUTCOMES:∃t,mg "MOST_OUTCOMES" = some (Value.int 8 t)
  k_MOST_HANDS:∃t,mg "MOST_HANDS" = some (Value.int 4 t)
  k_MOST_ROWS:∃t,mg "MOST_ROWS" = some (Value.int 256 t)
structure Ad where
  NoHouse:Addr
  NoPays:Addr
  NoMenu:Addr
structure Ct(K:Fg)(mg:Str->Option Value)(a:Ad):Prop where
  m_NoHouse:mg "NoHouse" = some (.ref a.NoHouse)
  q_NoHouse:ErrQ K a.NoHouse
  m_NoPays:mg "NoPays" = some (.ref a.NoPays)
  q_NoPays:ErrQ K a.NoPays
  v_NoPays:PySem.W.kitOne K (.ref a.NoPays) (.type "ValueError")=some true
  m_NoMenu:mg "NoMenu" = some (.ref a.NoMenu)
  q_NoMenu:ErrQ K a.NoMenu
  s_NoPays_NoPays:PySem.W.mroIn K a.NoPays (.ref a.NoPays)=some true
  k_NoPays_NoPays:PySem.W.kitOne K (.ref a.NoPays) (.ref a.NoPays)=some true
structure NewGrid(H H':Hp)(b:Addr)(bs:List Addr)(rows:List (List Int))(k n:Nat):Prop where
  same:Same H H'
  nb:H b=none
  nr:∀r∈bs,H r=none
  nd:bs.Nodup
  ne:b∉bs
  at':H' b=some (.lst (bs.map V.ref))
  lb:bs.length=k
  lr:rows.length=k
  row:∀(i:Nat) (r:Addr) (ns:List Int),bs[i]? = some r->rows[i]? = some ns->H' r=some (.lst (ns.map V.int))/\ns.length=n
theorem Same.upd{H H':Hp}(s:Same H H'){a:Addr}{o:HO}(n:H a=none):Same H (upd H' a o):=fun b u e=>by
  rw[zp (wf e n)];exact s b u e
theorem NewGrid.nil{H H':Hp}{b:Addr}{n:Nat}(s:Same H H')(nb:H' b=none):NewGrid H (upd H' b (.lst [])) b [] [] 0 n :=
  ⟨Same.upd s (s.free nb),s.free nb,(fun _ z=>nomatch z),YJ,(fun z=>nomatch z),zd,rfl,rfl,(fun i r ns e=>by simp at e)⟩
theorem NewGrid.laid{H H':Hp}{b c:Addr}{bs:List Addr}{rows:List (List Int)}{k n:Nat}{o:HO}(g:NewGrid H H' b bs rows k n)(nc:H' c=none):NewGrid H (L2.upd H' c o) b bs rows k n :=
  ⟨Same.upd g.same (g.same.free nc),g.nb,g.nr,g.nd,g.ne,by rw[zp (wf g.at' nc)];exact g.at',g.lb,g.lr,fun i r ns e1 e2=>by
    obtain⟨q,l⟩:=g.row i r ns e1 e2
    exact⟨by rw[zp (wf q nc)];exact q,l⟩⟩
theorem NewGrid.snoc{H H':Hp}{b c:Addr}{bs:List Addr}{rows:List (List Int)}{k n:Nat}{ns:List Int}(g:NewGrid H H' b bs rows k n)(hn:H c=none)(hc:H' c=some (.lst (ns.map V.int)))(hl:ns.length=n)(hb:c∉bs)(hcb:c≠b) :
    NewGrid H (L2.upd H' b (.lst (bs.map V.ref++[.ref c]))) b (bs++[c]) (rows++[ns]) (k+1) n:=by
  refine⟨Same.upd g.same g.nb,g.nb,fun r hr => ?_,?_,?_,?_,by rw[Zo,g.lb];rfl,by rw[Zo,g.lr];rfl,fun i r ms e1 e2 => ?_⟩
  . rcases ZH.mp hr with z | z
    . exact g.nr r z
    . rw[ZC.mp z];exact hn
  . refine Yo.mpr ⟨g.nd,by simp,fun x hx y hy => ?_⟩
    rw[ZC.mp hy]
    rintro rfl
    exact hb hx
  . intro z
    rcases ZH.mp z with z | z
    . exact g.ne z
    . exact hcb (ZC.mp z).symm
  . rw[zd,Zn];rfl
  . have nb':∀r,r∈bs++[c]->r≠b:=fun r hr=>by
      rcases ZH.mp hr with z | z
      . rintro rfl;exact g.ne z
      . rw[ZC.mp z];exact hcb
    have hr:r∈bs++[c]:=Zi e1;rw[zp (nb' r hr)]
    by_cases hi:i<bs.length
    . rw[Zg hi]at e1
      rw[Zg (by rw[g.lr,<-g.lb];exact hi)]at e2;exact g.row i r ms e1 e2
    . have hi':bs.length<=i:=ZD.mp hi
      rw[Zf hi']at e1;rw[Zf (by rw[g.lr,<-g.lb];exact hi')]at e2
      have e0:i-bs.length=0:=by
        have:=(Zc.mp e1).1;simp at this;omega
      rw[e0]at e1;have e0':i-rows.length=0:=by rw[g.lr,<-g.lb];exact e0
      rw[e0']at e2;simp at e1 e2;subst e1 e2;exact⟨hc,hl⟩
theorem zdg{K:Fg}{H:Hp}{g:Addr}{as:List Addr}{rows:List (List Int)}(G:GridL K H g as rows){t:Nat}{ns:List Int}(h:rows[t]? = some ns) :
    ∃r,atI (as.map V.ref) (t:Int)=some (V.ref r)/\SqL K H r (ns.map V.int):=by
  have ht:t<as.length:=by rw[G.2.1];exact(Zc.mp h).1
  have e:as[t]? = some as[t]:=by simp[ht]
  exact⟨as[t],zy (by rw[Ze,e];rfl),G.2.2 t _ ns e h⟩
theorem l8{ns:List Int}{t:Nat}{x:Int}(h:ns[t]? = some x):atI (ns.map V.int) (t:Int)=some (V.int x):=zy (by rw[Ze,h];rfl)
theorem GridL.mono{K:Fg}{H H':Hp}{g:Addr}{as:List Addr}{rows:List (List Int)}(S:Same H H')(G:GridL K H g as rows):GridL K H' g as rows:=⟨S.seq G.1,G.2.1,fun i r ns e1 e2=>S.seq (G.2.2 i r ns e1 e2)⟩
theorem kt{bs:List Addr}{i:Nat}{x:V}(hx:(bs.map V.ref)[i]? = some x):∃r,bs[i]? = some r/\x=V.ref r:=by
  rw[Ze]at hx
  cases e:bs[i]? with
  | none=>rw[e]at hx;cases hx
  | some r=>rw[e]at hx;cases hx;exact⟨r,rfl,rfl⟩
theorem zka{ms:List Int}{i:Nat}{x:V}(hx:(ms.map V.int)[i]? = some x):∃r,ms[i]? = some r/\x=V.int r:=by
  rw[Ze]at hx
  cases e:ms[i]? with
  | none=>rw[e]at hx;cases hx
  | some r=>rw[e]at hx;cases hx;exact⟨r,rfl,rfl⟩
def zx(ns:List Int)(k:Nat):Int:=ns.getD k 0
def numA(c:Int):Int:=(c % 2147483647*48271+11) % 2147483647
def letA(i:Int):Nat:=97+(i % 26).toNat
def jl(c:Int):Str:=chr1 (letA (numA c))
def stepsA:List Int:=[1,3,5,7,9,11,15,17,19,21,23,25]
def rq(c:Int):Int:=stepsA.getD (numA c/2028 % 12).toNat 0
def tw(c:Int):Int:=1+numA c/24336 % 8
def qg(c:Int):Int:=numA c/194688 % tw c
def uh(c:Int)(k:Nat):Str:=if numA c/26 % 3=1 then wy (jl c) (k+1) else wy (jl c) (qg c).toNat++chr1 (letA (numA c/78 % 26+rq c*k))++wy (jl c) (tw c-1-qg c).toNat
def w5(c:Int)(many:Nat):List Str:=(List.range many).map (uh c)
def gf(K:Fg):Sp:=fun vs H Q _=>∃(a:Addr) (ns:List Int) (k:Nat),vs=[.ref a,.int k]/\SqL K H a (ns.map V.int)/\Q (.int (zx ns k)) H
def zhq:Sp:=fun vs H Q _=>∃(c:Int) (many:Nat),vs=[.int c,.int many]/\many<=9/\∀H' l,Same H H'->H l=none->H' l=some (.lst ((w5 c many).map V.str))->Q (.ref l) H'
theorem vh(c:Int)(n:Nat):(w5 c n).length=n:=by rw[w5,Za,ZY]
theorem br(c:Int)(n:Nat):w5 c (n+1)=w5 c n++[uh c n]:=by rw[w5,Yu,Zn];rfl
theorem vc(z:Str)(n:Nat):(wy z n).length=z.length*n:=by
  unfold wy Str.length;simp[List.length_flatten,Nat.mul_comm]
theorem sg(y z:Str):(y++z).length=y.length+z.length:=by
  show(y.cps++z.cps).size=_
  simp[Str.length]
theorem zee(c:Int):0<=numA c:=Yg _ (by decide)
theorem zix{i:Int}(h0:0<=i)(h1:i<26):atI (Str.ofString "abcdefghijklmnopqrstuvwxyz").cps.toList i=some (97+i.toNat):=by
  have h:∀j:Fin 26,(Str.ofString "abcdefghijklmnopqrstuvwxyz").cps.toList[j.val]? = some (97+j.val):=by decide +kernel
  have:=zy (xs:=(Str.ofString "abcdefghijklmnopqrstuvwxyz").cps.toList) (j:=i.toNat) (v:=97+i.toNat) (h ⟨i.toNat,by omega⟩)
  rwa [Yh h0]at this
section
variable{P:Program}{w:World}{K:Fg}{mg:Str->Option Value}{base:Heap}
theorem xh (B:Bt mg) (D:zc K mg "_law_cell_at" sr ["script", "k"]):FnAt P w K mg base "_law_cell_at" 1 ["script", "k"] (gf K):=by
  refine FnAt.of D zau (fun vs H Q E h => ?_) (fun f cdv A outer s H vs Q E hr h => ?_)
  . obtain⟨a,ns,k,rfl,_⟩:=h
    rfl
  . obtain⟨a,ns,k,rfl,hS,q⟩:=h
    refine⟨_,(@zj _ _ _ _ _ (@xg _ _ _ _ _ _ _ _ (@yn _ _ _ _ _ _ _ _ zag (pv 1) (zq zt rfl B.len yc (za (pv 0) (@zb _))) (yt _)) (@zh _ _ _ (@zm _ _ _ _ (@z0 _ _ _ _ _ _ _ yf (pv 0) (pv 1) (fun _ _=>rfl)))) (@ye _)) (@zh _ _ _ (@zm _ _ _ _ (@zg _ _ _ _)))),?_⟩;rw[show start ["script", "k"] [V.ref a,V.int k]=[some (V.ref a),some (V.int k)] from rfl];simp only[zf,ze,↓reduceIte];refine⟨ns.map V.int,.inl hS,?_⟩;rw[Za];unfold zx at q;refine ite2 (fun h => ?_) (fun h => ?_)
    . have h':(k:Int)<ns.length:=of_decide_eq_true h
      have hlt:k<ns.length:=by omega
      have e:ns[k]? = some ns[k]:=by simp[hlt]
      have e2:=zy (xs:=ns.map V.int) (j:=k) (v:=V.int ns[k]) (by rw[Ze,e];rfl);rw[Zk,e]at q;exact⟨ns.map V.int,hS,_,e2,q⟩
    . have h':¬(k:Int)<ns.length:=fun z=>h (decide_eq_true z)
      rw[Zk,Yl (by omega)]at q;exact q
theorem qu (B:Bt mg) (D:zc K mg "_law_pool" ya ["cell", "many"]):FnAt P w K mg base "_law_pool" 1 ["cell", "many"] zhq:=by
  refine FnAt.of D sc_law_pool (fun vs H Q E h => ?_) (fun f cdv A outer s H vs Q E hr h => ?_)
  . obtain⟨c,many,rfl,_⟩:=h
    rfl
  . obtain⟨c,many,rfl,hm,q⟩:=h
    have b10:PSs (cxOf CX0 P w K mg base ["cell", "many", "letters", "number", "filler", "begin", "step", "size", "place", "front", "back"] "_law_pool" (zk ya) f cdv A outer s H E).nox ((xf ya).drop 10) _:=(@zl9 _ _ _ _ _ (@zm _ _ _ _ (yg ["k"] ["cell", "many", "letters", "number", "filler", "begin", "step", "size", "place", "front", "back"] rfl (yv rfl B.range (za (pv 1) (@zb _))) (fun _=>(zn (i:=0) (show(["k", "cell", "many", "letters", "number", "filler", "begin", "step", "size", "place", "front", "back"]:List Str).Nodup by decide +kernel) rfl (Or.inl rfl))) (fun _=>(@z9 _)) (fun _=>(@zl _ _ _ _ _ _ _ _ bv (@zl _ _ _ _ _ _ _ _ bv (pv 10) (@z0 _ _ _ _ _ _ _ ziw (pv 3) (@zl _ _ _ _ _ _ _ _ ym (@zl _ _ _ _ _ _ _ _ yo (pv 6) (@zl _ _ _ _ _ _ _ _ qk (pv 7) (pv 0))) (@zg _ _ _ _)) (fun _ _=>rfl))) (pv 11))) rfl (by decide +kernel) rfl rfl)) rfl rfl);have b9:PSs (cxOf CX0 P w K mg base ["cell", "many", "letters", "number", "filler", "begin", "step", "size", "place", "front", "back"] "_law_pool" (zk ya) f cdv A outer s H E).nox ((xf ya).drop 9) _:=(@sf _ _ _ _ _ _ (zw (i:=10) sc_law_pool.nd rfl (Or.inr rfl) (@zl _ _ _ _ _ _ _ _ zal (pv 4) (@zl _ _ _ _ _ _ _ _ uq (@zl _ _ _ _ _ _ _ _ uq (pv 7) (@zg _ _ _ _)) (pv 8)))) rfl @b10);have b8:PSs (cxOf CX0 P w K mg base ["cell", "many", "letters", "number", "filler", "begin", "step", "size", "place", "front", "back"] "_law_pool" (zk ya) f cdv A outer s H E).nox ((xf ya).drop 8) _:=(@sf _ _ _ _ _ _ (zw (i:=9) sc_law_pool.nd rfl (Or.inr rfl) (@zl _ _ _ _ _ _ _ _ zal (pv 4) (pv 8))) rfl @b9);have b7:PSs (cxOf CX0 P w K mg base ["cell", "many", "letters", "number", "filler", "begin", "step", "size", "place", "front", "back"] "_law_pool" (zk ya) f cdv A outer s H E).nox ((xf ya).drop 7) _:=(@sf _ _ _ _ _ _ (zw (i:=8) sc_law_pool.nd rfl (Or.inl rfl) (@zl _ _ _ _ _ _ _ _ ym (@zl _ _ _ _ _ _ _ _ wm (pv 3) (@zg _ _ _ _)) (pv 7))) rfl @b8);have b6:PSs (cxOf CX0 P w K mg base ["cell", "many", "letters", "number", "filler", "begin", "step", "size", "place", "front", "back"] "_law_pool" (zk ya) f cdv A outer s H E).nox ((xf ya).drop 6) _:=(@sf _ _ _ _ _ _ (zw (i:=7) sc_law_pool.nd rfl (Or.inl rfl) (@zl _ _ _ _ _ _ _ _ yo (@zg _ _ _ _) (@zl _ _ _ _ _ _ _ _ ym (@zl _ _ _ _ _ _ _ _ wm (pv 3) (@zg _ _ _ _)) (@zg _ _ _ _)))) rfl @b7);have b5:PSs (cxOf CX0 P w K mg base ["cell", "many", "letters", "number", "filler", "begin", "step", "size", "place", "front", "back"] "_law_pool" (zk ya) f cdv A outer s H E).nox ((xf ya).drop 5) _:=(@sf _ _ _ _ _ _ (zw (i:=6) sc_law_pool.nd rfl (Or.inr rfl) (@z0 _ _ _ _ _ _ _ yf (@w9 _ _ _ _ (ze0 (ns:=[1,3,5,7,9,11,15,17,19,21,23,25]) rfl)) (@zl _ _ _ _ _ _ _ _ ym (@zl _ _ _ _ _ _ _ _ wm (pv 3) (@zg _ _ _ _)) (@zg _ _ _ _)) (fun _ _=>rfl))) rfl @b6);have b4:PSs (cxOf CX0 P w K mg base ["cell", "many", "letters", "number", "filler", "begin", "step", "size", "place", "front", "back"] "_law_pool" (zk ya) f cdv A outer s H E).nox ((xf ya).drop 4) _:=(@sf _ _ _ _ _ _ (zw (i:=5) sc_law_pool.nd rfl (Or.inr rfl) (@zl _ _ _ _ _ _ _ _ ym (@zl _ _ _ _ _ _ _ _ wm (pv 3) (@zg _ _ _ _)) (@zg _ _ _ _))) rfl @b5);have b3:PSs (cxOf CX0 P w K mg base ["cell", "many", "letters", "number", "filler", "begin", "step", "size", "place", "front", "back"] "_law_pool" (zk ya) f cdv A outer s H E).nox ((xf ya).drop 3) _:=(@sf _ _ _ _ _ _ (@xg _ _ _ _ _ _ _ _ (@yn _ _ _ _ _ _ _ _ pq (@zl _ _ _ _ _ _ _ _ ym (@zl _ _ _ _ _ _ _ _ wm (pv 3) (@zg _ _ _ _)) (@zg _ _ _ _)) (@zg _ _ _ _) (yt _)) (@zh _ _ _ (@zm _ _ _ _ (yg ["k"] ["cell", "many", "letters", "number", "filler", "begin", "step", "size", "place", "front", "back"] rfl (yv rfl B.range (za (pv 1) (@zb _))) (fun _=>(zn (i:=0) (show(["k", "cell", "many", "letters", "number", "filler", "begin", "step", "size", "place", "front", "back"]:List Str).Nodup by decide +kernel) rfl (Or.inl rfl))) (fun _=>(@z9 _)) (fun _=>(@zl _ _ _ _ _ _ _ _ zal (pv 5) (@zl _ _ _ _ _ _ _ _ yo (pv 0) (@zg _ _ _ _)))) rfl (by decide +kernel) rfl rfl))) (@ye _)) rfl @b4);have b2:PSs (cxOf CX0 P w K mg base ["cell", "many", "letters", "number", "filler", "begin", "step", "size", "place", "front", "back"] "_law_pool" (zk ya) f cdv A outer s H E).nox ((xf ya).drop 2) _:=(@sf _ _ _ _ _ _ (zw (i:=4) sc_law_pool.nd rfl (Or.inr rfl) (@z0 _ _ _ _ _ _ _ ziw (pv 2) (@zl _ _ _ _ _ _ _ _ ym (pv 3) (@zg _ _ _ _)) (fun _ _=>rfl))) rfl @b3);have b1:PSs (cxOf CX0 P w K mg base ["cell", "many", "letters", "number", "filler", "begin", "step", "size", "place", "front", "back"] "_law_pool" (zk ya) f cdv A outer s H E).nox ((xf ya).drop 1) _:=(@sf _ _ _ _ _ _ (zw (i:=3) sc_law_pool.nd rfl (Or.inl rfl) (@zl _ _ _ _ _ _ _ _ ym (@zl _ _ _ _ _ _ _ _ yo (@zl _ _ _ _ _ _ _ _ qk (@zl _ _ _ _ _ _ _ _ ym (pv 0) (@zg _ _ _ _)) (@zg _ _ _ _)) (@zg _ _ _ _)) (@zg _ _ _ _))) rfl @b2);have b0:PSs (cxOf CX0 P w K mg base ["cell", "many", "letters", "number", "filler", "begin", "step", "size", "place", "front", "back"] "_law_pool" (zk ya) f cdv A outer s H E).nox ((xf ya).drop 0) _:=(@sf _ _ _ _ _ _ (zw (i:=2) sc_law_pool.nd rfl (Or.inr rfl) (@rk _ _ _ _)) rfl @b1);have b_:=@zmk _ _ _ @b0;refine⟨_,@b_,?_⟩;rw[show start ["cell", "many", "letters", "number", "filler", "begin", "step", "size", "place", "front", "back"] [V.int c,V.int many]=[some (V.int c),some (V.int many),none,none,none,none,none,none,none,none,none] from rfl]
    (try dsimp only[xp,e_C,e_op,e_rI,xq,xt,x6,xx,x9,y4,e_B,x0,e_or,wb,x5,x8,y9,xw,y3,xz,xu,xy,yi,xr,y0,wc,xv,y7,e_CB,e_BM,y8,e_iL,wa,y6,cxK,noxK,xc,yz,yl]);(try simp only[zf,ze,↓reduceIte])
    simp only[show(c % 2147483647*48271+11) % 2147483647=numA c from rfl,show numA c % 26=numA c % 26 from rfl];have hn:=zee c
    have hs1:1<=tw c/\tw c<=8:=by
      have h1:=Yg (numA c/24336) (show(8:Int)≠0 by decide);have h2:=ZU (numA c/24336) (show(0:Int)<8 by decide);unfold tw;omega
    have hp1:0<=qg c/\qg c<tw c:=⟨Yg _ (by omega),ZU _ (by omega)⟩;have hl1:=zix (Yg (numA c) (show(26:Int)≠0 by decide)) (ZU (numA c) (show(0:Int)<26 by decide));refine⟨by decide,?_,by decide,by decide,by decide,_,hl1,?_⟩
    . exact .inr ⟨by decide,by decide⟩
    refine⟨⟨by decide,by decide⟩,by decide,rfl,ite2 (fun h => ?_) (fun h => ?_)⟩
    . have h:=of_decide_eq_true h
      refine⟨by omega,by omega,fun d => ?_⟩;rw[Zw];refine wp (fun i ys H'=>H'=H/\ys=(w5 c i).map V.str) ⟨rfl,rfl⟩ ?_ ?_ ?_
      . rintro i ys H' hi ⟨rfl,rfl⟩
        rw[Za,vh];exact Zd (show i<=9 by omega) (by decide)
      . rintro i ys H' hi ⟨rfl,rfl⟩
        simp only[zf,ze,↓reduceIte];refine⟨by omega,by omega,?_,?_⟩
        . show 1*_<=_
          rw[Nat.one_mul];exact Zd (show((i:Int)+1).toNat<=10 by omega) (by decide)
        . rw[br,uh,if_pos h,Zn,show((i:Int)+1).toNat=i+1 by omega]
          rfl
      . rintro ys H' ⟨rfl,rfl⟩ l hl
        exact q _ l (Same.upd (Same.refl _) hl) hl zd
    . have h:¬_:=fun z=>h (decide_eq_true z)
      refine⟨⟨by decide,by decide⟩,by decide,by decide,fun p hp=>⟨⟨by decide,by decide⟩,by decide,_,.of zd,?_⟩⟩
      have hst:∃st:Int,atI [V.int 1,V.int 3,V.int 5,V.int 7,V.int 9,V.int 11,V.int 15,V.int 17,V.int 19,V.int 21,V.int 23,V.int 25] (numA c/2028 % 12)=some (V.int st)/\st=rq c/\0<=st/\st<26:=by
        have h1:=Yg (numA c/2028) (show(12:Int)≠0 by decide);have h2:=ZU (numA c/2028) (show(0:Int)<12 by decide);unfold rq;generalize numA c/2028 % 12=m at h1 h2 ⊢;have h3:∀j:Fin 12,[V.int 1,V.int 3,V.int 5,V.int 7,V.int 9,V.int 11,V.int 15,V.int 17,V.int 19,V.int 21,V.int 23,V.int 25][j.val]? = some (V.int (stepsA.getD j.val 0))/\0<=stepsA.getD j.val 0/\stepsA.getD j.val 0<26:=by decide
        have h4:=h3 ⟨m.toNat,by omega⟩;have h5:=zy h4.1;rw[Yh h1]at h5;exact⟨_,h5,rfl,h4.2⟩
      obtain⟨st,e1,e2,e3,e4⟩:=hst;subst e2;refine⟨_,e1,⟨by decide,by decide⟩,by decide,⟨by decide,by decide⟩,?_⟩;simp only[show 1+numA c/24336 % 8=tw c from rfl,show numA c/194688 % tw c=qg c from rfl,show(⟨#[97+(numA c % 26).toNat]⟩:Str)=jl c from rfl];have hf:(jl c).length=1:=rfl;rw[hf,Nat.one_mul,Nat.one_mul];refine⟨by omega,by omega,by omega,?_,by omega,by omega,?_,by omega,by omega,fun d => ?_⟩
      . exact Zd (show(qg c).toNat<=8 by omega) (by decide)
      . exact Zd (show(tw c-1-qg c).toNat<=8 by omega) (by decide)
      rw[Zw];have S1:Same H (upd H p (.lst [V.int 1,V.int 3,V.int 5,V.int 7,V.int 9,V.int 11,V.int 15,V.int 17,V.int 19,V.int 21,V.int 23,V.int 25])):=Same.upd (Same.refl _) hp;generalize upd H p (.lst [V.int 1,V.int 3,V.int 5,V.int 7,V.int 9,V.int 11,V.int 15,V.int 17,V.int 19,V.int 21,V.int 23,V.int 25])=H1 at *;refine wp (fun i ys H'=>H'=H1/\ys=(w5 c i).map V.str) ⟨rfl,rfl⟩ ?_ ?_ ?_
      . rintro i ys H' hi ⟨rfl,rfl⟩
        rw[Za,vh];exact Zd (show i<=9 by omega) (by decide)
      . rintro i ys H' hi ⟨rfl,rfl⟩
        simp only[zf,ze,↓reduceIte];have hb:=zix (Yg (numA c/78 % 26+rq c*i) (show(26:Int)≠0 by decide)) (ZU (numA c/78 % 26+rq c*i) (show(0:Int)<26 by decide));refine⟨.inl ⟨by omega,by omega⟩,by decide,by decide,_,hb,?_,?_,?_⟩
        . rw[vc,hf]
          exact Zd (show _<=20 by show 1*_+1<=20;omega) (by decide)
        . rw[sg,vc,vc,hf]
          exact Zd (show _<=30 by show 1*_+1+1*_<=30;omega) (by decide)
        . rw[br,uh,if_neg h,Zn]
          rfl
      . rintro ys H' ⟨rfl,rfl⟩ l hl
        exact q _ l (Same.upd S1 (S1.free hl)) (S1.free hl) zd
end
def vp(ns:List Int):Nat:=max 1 (min ns.length 63-5)
def rm(ns:List Int)(k:Nat):Int :=
  if k<vp ns then zx ns (5+k % vp ns)
  else(zx ns (5+k % vp ns) % 2147483647*48271+(k/vp ns:Nat)*7919+k) % 2147483647*((zx ns (5+k % vp ns) % 2147483647*48271+(k/vp ns:Nat)*7919+k) % 2147483647) % 2147483629
def kz(c:Int):Int :=
  if c % 5=2 then c/5 % 10^18-5*10^17 else if c % 5=3 then c/5 % (2*10^57-1)-10^57+1 else if c % 5=4 then 0 else c/5 % 19-9
def zaz(K:Fg):Sp:=fun vs H Q _=>∃(a:Addr) (ns:List Int) (k:Nat),vs=[.ref a,.int k]/\SqL K H a (ns.map V.int)/\Q (.int (rm ns k)) H
def zeu:Sp:=fun vs H Q _=>∃c:Int,vs=[.int c]/\Q (.int (kz c)) H
section
variable{P:Program}{w:World}{K:Fg}{mg:Str->Option Value}{base:Heap}
theorem jw (D:zc K mg "_law_worth" pp ["cell"]):FnAt P w K mg base "_law_worth" 1 ["cell"] zeu:=by
  refine FnAt.of D zch (fun vs H Q E h => ?_) (fun f cdv A outer s H vs Q E hr h => ?_)
  . obtain⟨c,rfl,_⟩:=h
    rfl
  . obtain⟨c,rfl,q⟩:=h
    refine⟨_,(@zj _ _ _ _ _ (@xg _ _ _ _ _ _ _ _ (@yn _ _ _ _ _ _ _ _ pq (@zl _ _ _ _ _ _ _ _ ym (pv 0) (@zg _ _ _ _)) (@zg _ _ _ _) (yt _)) (@zh _ _ _ (@zm _ _ _ _ (@zl _ _ _ _ _ _ _ _ uq (@zl _ _ _ _ _ _ _ _ ym (@zl _ _ _ _ _ _ _ _ wm (pv 0) (@zg _ _ _ _)) (@zl _ _ _ _ _ _ _ _ ip (@zg _ _ _ _) (@zg _ _ _ _))) (@zl _ _ _ _ _ _ _ _ qk (@zg _ _ _ _) (@zl _ _ _ _ _ _ _ _ ip (@zg _ _ _ _) (@zg _ _ _ _)))))) (@ye _)) (@zj _ _ _ _ _ (@xg _ _ _ _ _ _ _ _ (@yn _ _ _ _ _ _ _ _ pq (@zl _ _ _ _ _ _ _ _ ym (pv 0) (@zg _ _ _ _)) (@zg _ _ _ _) (yt _)) (@zh _ _ _ (@zm _ _ _ _ (@zl _ _ _ _ _ _ _ _ yo (@zl _ _ _ _ _ _ _ _ uq (@zl _ _ _ _ _ _ _ _ ym (@zl _ _ _ _ _ _ _ _ wm (pv 0) (@zg _ _ _ _)) (@zl _ _ _ _ _ _ _ _ uq (@zl _ _ _ _ _ _ _ _ qk (@zg _ _ _ _) (@zl _ _ _ _ _ _ _ _ ip (@zg _ _ _ _) (@zg _ _ _ _))) (@zg _ _ _ _))) (@zl _ _ _ _ _ _ _ _ ip (@zg _ _ _ _) (@zg _ _ _ _))) (@zg _ _ _ _)))) (@ye _)) (@zj _ _ _ _ _ (@xg _ _ _ _ _ _ _ _ (@yn _ _ _ _ _ _ _ _ pq (@zl _ _ _ _ _ _ _ _ ym (pv 0) (@zg _ _ _ _)) (@zg _ _ _ _) (yt _)) (@zh _ _ _ (@zm _ _ _ _ (@zg _ _ _ _))) (@ye _)) (@zh _ _ _ (@zm _ _ _ _ (@zl _ _ _ _ _ _ _ _ uq (@zl _ _ _ _ _ _ _ _ ym (@zl _ _ _ _ _ _ _ _ wm (pv 0) (@zg _ _ _ _)) (@zg _ _ _ _)) (@zg _ _ _ _))))))),?_⟩;rw[show start ["cell"] [V.int c]=[some (V.int c)] from rfl]
    (try dsimp only[xp,e_C,e_op,e_rI,xq,xt,x6,xx,x9,y4,e_B,x0,e_or,wb,x5,x8,y9,xw,y3,xz,xu,xy,yi,xr,y0,wc,xv,y7,e_CB,e_BM,y8,e_iL,wa,y6,cxK,noxK,xc,yz,yl]);(try simp only[zf,ze,↓reduceIte])
    unfold kz at q;refine⟨by decide,rfl,ite2 (fun h => ?_) (fun h => ?_)⟩
    . rw[if_pos (of_decide_eq_true h)]at q
      exact⟨⟨by decide,by decide⟩,⟨by decide,by decide,by decide⟩,by decide,⟨by decide,by decide,by decide⟩,.inl ⟨by decide,by decide⟩,q⟩
    . rw[if_neg (fun z=>h (decide_eq_true z))]at q
      refine⟨by decide,rfl,ite2 (fun h => ?_) (fun h => ?_)⟩
      . rw[if_pos (of_decide_eq_true h)]at q
        exact⟨⟨by decide,by decide⟩,⟨by decide,by decide,by decide⟩,.inl ⟨by decide,by decide⟩,by decide,⟨by decide,by decide,by decide⟩,q⟩
      . rw[if_neg (fun z=>h (decide_eq_true z))]at q
        refine⟨by decide,rfl,ite2 (fun h => ?_) (fun h => ?_)⟩
        . rw[if_pos (of_decide_eq_true h)]at q
          exact q
        . rw[if_neg (fun z=>h (decide_eq_true z))]at q
          exact⟨⟨by decide,by decide⟩,by decide,q⟩
theorem v7 (B:Bt mg) (xh:FnAt P w K mg base "_law_cell_at" 1 ["script", "k"] (gf K)) (D:zc K mg "_law_drawn" om ["script", "k"]):FnAt P w K mg base "_law_drawn" 2 ["script", "k"] (zaz K):=by
  refine FnAt.of D sc_law_drawn (fun vs H Q E h => ?_) (fun f cdv A outer s H vs Q E hr h => ?_)
  . obtain⟨a,ns,k,rfl,_⟩:=h
    rfl
  . obtain⟨a,ns,k,rfl,hS,q⟩:=h
    refine⟨_,(@zj _ _ _ _ _ (zw (i:=2) sc_law_drawn.nd rfl (Or.inl rfl) (zq (zi8 rfl) rfl B.max zcg (za (@zg _ _ _ _) (za (@zl _ _ _ _ _ _ _ _ uq (zq (ziv rfl) rfl B.min zdc (za (zq zt rfl B.len yc (za (pv 0) (@zb _))) (za (@zg _ _ _ _) (@zb _)))) (@zg _ _ _ _)) (@zb _))))) (@zj _ _ _ _ _ (zw (i:=3) sc_law_drawn.nd rfl (Or.inl rfl) (zi xh (hr.mono (by decide)) rfl (za (pv 0) (za (@zl _ _ _ _ _ _ _ _ yo (@zg _ _ _ _) (@zl _ _ _ _ _ _ _ _ ym (pv 1) (pv 2))) (@zb _))))) (@zj _ _ _ _ _ (@xg _ _ _ _ _ _ _ _ (@yn _ _ _ _ _ _ _ _ zag (pv 1) (pv 2) (yt _)) (@zh _ _ _ (@zm _ _ _ _ (pv 3))) (@ye _)) (@zj _ _ _ _ _ (zw (i:=4) sc_law_drawn.nd rfl (Or.inl rfl) (@zl _ _ _ _ _ _ _ _ ym (@zl _ _ _ _ _ _ _ _ yo (@zl _ _ _ _ _ _ _ _ yo (@zl _ _ _ _ _ _ _ _ qk (@zl _ _ _ _ _ _ _ _ ym (pv 3) (@zg _ _ _ _)) (@zg _ _ _ _)) (@zl _ _ _ _ _ _ _ _ qk (@zl _ _ _ _ _ _ _ _ wm (pv 1) (pv 2)) (@zg _ _ _ _))) (pv 1)) (@zg _ _ _ _))) (@zh _ _ _ (@zm _ _ _ _ (@zl _ _ _ _ _ _ _ _ ym (@zl _ _ _ _ _ _ _ _ qk (pv 4) (pv 4)) (@zg _ _ _ _)))))))),?_⟩;rw[show start ["script", "k", "many", "cell", "number"] [V.ref a,V.int k]=[some (V.ref a),some (V.int k),none,none,none] from rfl]
    (try dsimp only[xp,e_C,e_op,e_rI,xq,xt,x6,xx,x9,y4,e_B,x0,e_or,wb,x5,x8,y9,xw,y3,xz,xu,xy,yi,xr,y0,wc,xv,y7,e_CB,e_BM,y8,e_iL,wa,y6,cxK,noxK,xc,yz,yl]);(try simp only[zf,ze,↓reduceIte])
    refine⟨_,Or.inl hS,?_⟩;rw[Za]
    have hm:(if (if (63:Int)<(ns.length:Int) then(63:Int) else(ns.length:Int))-5 > 1 then(if (63:Int)<(ns.length:Int) then(63:Int) else(ns.length:Int))-5 else 1)=(vp ns:Int):=by
      unfold vp
      by_cases h1:(63:Int)<(ns.length:Int)
      . rw[if_pos h1,if_pos (by omega)]
        omega
      . rw[if_neg h1]
        by_cases h2:(ns.length:Int)-5 > 1
        . rw[if_pos h2];omega
        . rw[if_neg h2];omega
    rw[hm];have hm1:1<=vp ns:=by unfold vp;omega
    have hm2:vp ns<=58:=by unfold vp;omega
    refine⟨by omega,a,ns,5+k % vp ns,?_,hS,?_⟩
    . rw[show(5:Int)+(k:Int) % (vp ns:Int)=((5+k % vp ns:Nat):Int) by rw[Int.natCast_add,Int.natCast_emod];rfl]
    unfold rm at q;refine ite2 (fun h => ?_) (fun h => ?_)
    . rw[if_pos (by have:=of_decide_eq_true h;omega)]at q
      exact q
    . rw[if_neg (by have:¬(k:Int)<(vp ns:Int):=fun z=>h (decide_eq_true z);omega)]at q
      refine⟨_,rfl,by decide,.inr ⟨by decide,by decide⟩,⟨by omega,by omega⟩,.inr ⟨by decide,by decide⟩,by decide,.inl ?_,by decide,?_⟩
      . generalize zx ns (5+k % vp ns) % 2147483647*48271+(k:Int)/(vp ns:Int)*7919+(k:Int)=m
        have h1:=Yg m (show(2147483647:Int)≠0 by decide);have h2:=ZU m (show(0:Int)<2147483647 by decide);omega
      . rw[Int.natCast_ediv]at q
        exact q
end
structure HX where
  t:Addr
  w:Addr
  g:Addr
  gs:List Addr
def HX.adr(x:HX):List Addr:=x.t::x.w::x.g::x.gs
structure HD where
  name:Str
  words:List Str
  worths:List (List Int)
structure HandAt(H:Hp)(x:HX)(d:HD):Prop where
  tup:H x.t=some (.tup [.str d.name,.ref x.w,.ref x.g])
  words:H x.w=some (.lst (d.words.map V.str))
  grid:H x.g=some (.lst (x.gs.map V.ref))
  len:x.gs.length=d.worths.length
  row:∀(i:Nat) (r:Addr) (ns:List Int),x.gs[i]? = some r->d.worths[i]? = some ns->H r=some (.lst (ns.map V.int))
theorem HandAt.mono{H H':Hp}{x:HX}{d:HD}(S:Same H H')(h:HandAt H x d):HandAt H' x d :=
  ⟨S _ _ h.tup,S _ _ h.words,S _ _ h.grid,h.len,fun i r ns e1 e2=>S _ _ (h.row i r ns e1 e2)⟩
def adrs(xs:List HX):List Addr:=(xs.map HX.adr).flatten
structure NewHands(H H':Hp)(b:Addr)(xs:List HX)(ds:List HD):Prop where
  same:Same H H'
  nb:H b=none
  at':H' b=some (.lst (xs.map fun x=>V.ref x.t))
  len:xs.length=ds.length
  hand:∀(i:Nat) (x:HX) (d:HD),xs[i]? = some x->ds[i]? = some d->HandAt H' x d
  new:∀y∈adrs xs,H y=none
  old:∀y∈adrs xs,H' y≠none
  nd:(adrs xs).Nodup
  ne:b∉adrs xs
theorem NewHands.nil{H H':Hp}{b:Addr}(s:Same H H')(nb:H' b=none):NewHands H (upd H' b (.lst [])) b [] [] :=
  ⟨Same.upd s (s.free nb),s.free nb,zd,rfl,(fun i x d e=>by simp at e),(fun y z=>nomatch z),(fun y z=>nomatch z),YJ,(fun z=>nomatch z)⟩
theorem NewHands.more{H H' H2:Hp}{b:Addr}{xs:List HX}{ds:List HD}(g:NewHands H H' b xs ds)(S:Same H' H2):NewHands H H2 b xs ds :=
  ⟨g.same.trans S,g.nb,S _ _ g.at',g.len,fun i x d e1 e2=>(g.hand i x d e1 e2).mono S,g.new,fun y hy=>by
    cases e:H' y with
    | none=>exact absurd e (g.old y hy)
    | some o=>rw[S _ _ e];simp,g.nd,g.ne⟩
theorem NewHands.snoc{H H':Hp}{b:Addr}{xs:List HX}{ds:List HD}{x:HX}{d:HD}(g:NewHands H H' b xs ds)(h:HandAt H' x d)(hn:∀y∈x.adr,H y=none)(hx:x.adr.Nodup)(ho:∀y∈x.adr,y∉adrs xs)(hb:b∉x.adr) :
    NewHands H (upd H' b (.lst (xs.map (fun x=>V.ref x.t)++[.ref x.t]))) b (xs++[x]) (ds++[d]):=by
  have ap:adrs (xs++[x])=adrs xs++x.adr:=by simp[adrs]
  have keep:∀y o,y≠b->H' y=some o->upd H' b (.lst (xs.map (fun x=>V.ref x.t)++[.ref x.t])) y=some o:=fun y o e q=>by rw[zp e];exact q
  have hand':∀{z:HX} {e:HD},HandAt H' z e->b∉z.adr->HandAt (upd H' b (.lst (xs.map (fun x=>V.ref x.t)++[.ref x.t]))) z e:=fun {z e} q nb=>by
    have n:∀y∈z.adr,y≠b:=fun y hy e=>nb (e▸hy)
    exact⟨keep _ _ (n _ (by simp[HX.adr])) q.tup,keep _ _ (n _ (by simp[HX.adr])) q.words,keep _ _ (n _ (by simp[HX.adr])) q.grid,q.len,fun i r ns e1 e2=>keep _ _ (n _ (by simp[HX.adr,Zi e1])) (q.row i r ns e1 e2)⟩
  refine⟨Same.upd g.same g.nb,g.nb,by rw[zd];simp,by simp[g.len],fun i z e e1 e2 => ?_,fun y hy => ?_,fun y hy => ?_,?_,?_⟩
  . by_cases hi:i<xs.length
    . rw[Zg hi]at e1
      rw[Zg (by rw[<-g.len];exact hi)]at e2;refine hand' (g.hand i z e e1 e2) fun q=>g.ne ?_
      exact YS.mpr ⟨_,Zp.mpr ⟨z,Zi e1,rfl⟩,q⟩
    . rw[Zf (ZD.mp hi)]at e1
      rw[Zf (by rw[<-g.len];exact ZD.mp hi)]at e2
      have e0:i-xs.length=0:=by
        have:=(Zc.mp e1).1;simp at this;omega
      rw[e0]at e1;rw[<-g.len,e0]at e2;simp at e1 e2;subst e1 e2;exact hand' h hb
  . rw[ap]at hy
    rcases ZH.mp hy with z | z
    . exact g.new y z
    . exact hn y z
  . rw[ap]at hy
    have hyb:y≠b:=fun e=>by
      rcases ZH.mp hy with z | z
      . exact g.ne (e▸z)
      . exact hb (e▸z)
    rw[zp hyb]
    rcases ZH.mp hy with z | z
    . exact g.old y z
    . rcases ZK.mp z with e | z
      . rw[e,h.tup];simp
      rcases ZK.mp z with e | z
      . rw[e,h.words];simp
      rcases ZK.mp z with e | z
      . rw[e,h.grid];simp
      . obtain⟨i,hi,rfl⟩:=Zy z
        have e1:x.gs[i]? = some x.gs[i]:=by simp[hi]
        have hi2:i<d.worths.length:=by rw[<-h.len];exact hi
        have e2:d.worths[i]? = some d.worths[i]:=by simp[hi2]
        rw[h.row i _ _ e1 e2];simp
  . rw[ap]
    refine Yo.mpr ⟨g.nd,hx,fun y hy z hz e => ?_⟩;exact ho z hz (e▸hy)
  . rw[ap]
    intro z
    rcases ZH.mp z with z | z
    . exact g.ne z
    . exact hb z
def xj(ns:List Int):Nat:=(1+zx ns 1 % 8).toNat
def pz(ns:List Int):List Str:=w5 (zx ns 0) (xj ns)
def uc(ns:List Int):Nat:=(1+zx ns 1/8 % 4).toNat
def vd(ns tops:List Int)(j:Nat):Nat:=(1+zx ns 2/([1,9,83,761]:List Int).getD j 0 % tops.getD (zx ns 1/8 % 4).toNat 0).toNat
def iq(ns:List Int)(j:Nat):Int:=[zx ns 0,zx ns 0/5+j,zx ns 3+31*j].getD (zx ns 1/32 % 3).toNat 0
def sh(ns:List Int):Int:=[zx ns 0,zx ns 0/7+2].getD (zx ns 1/96 % 2).toNat 0
def rowA(ns:List Int)(k n:Nat):List Int:=(List.range n).map fun i=>kz (rm ns (k+i))
def u4(ns:List Int)(k n m:Nat):List (List Int):=(List.range m).map fun r=>rowA ns (k+r*n) n
def wx(ns tops:List Int):Nat->Nat
  | 0=>0
  | j+1=>wx ns tops j+vd ns tops j*xj ns
def zb7(ns tops:List Int)(j:Nat):HD:=⟨uh (sh ns) j,w5 (iq ns j) (vd ns tops j),u4 ns (wx ns tops j) (xj ns) (vd ns tops j)⟩
def v0(ns tops:List Int)(m:Nat):List HD:=(List.range m).map (zb7 ns tops)
theorem zeb(ns tops:List Int)(m:Nat):v0 ns tops (m+1)=v0 ns tops m++[zb7 ns tops m]:=by rw[v0,Yu,Zn];rfl
theorem zhm(ns:List Int)(k n:Nat):rowA ns k (n+1)=rowA ns k n++[kz (rm ns (k+n))]:=by rw[rowA,Yu,Zn];rfl
theorem cn(ns:List Int)(k n:Nat):(rowA ns k n).length=n:=by rw[rowA,Za,ZY]
theorem zf8(ns:List Int)(k n m:Nat):u4 ns k n (m+1)=u4 ns k n m++[rowA ns (k+m*n) n]:=by rw[u4,Yu,Zn];rfl
theorem zbj(ns:List Int)(k n m:Nat):(u4 ns k n m).length=m:=by rw[u4,Za,ZY]
theorem xn(a:Int){n:Int}(h:0<n):0<=a % n/\a % n<n:=⟨Yg _ (by omega),ZU _ h⟩
theorem k9(ns:List Int):1<=xj ns/\xj ns<=8:=by
  have:=xn (zx ns 1) (show(0:Int)<8 by decide);unfold xj;omega
theorem jb(ns:List Int):1<=uc ns/\uc ns<=4:=by
  have:=xn (zx ns 1/8) (show(0:Int)<4 by decide);unfold uc;omega
def Tops(tops:List Int):Prop:=tops.length=4/\∀t∈tops,1<=t/\t<=8
theorem Tops.get{tops:List Int}(h:Tops tops)(ns:List Int):∃t,tops[(zx ns 1/8 % 4).toNat]? = some t/\tops.getD (zx ns 1/8 % 4).toNat 0=t/\1<=t/\t<=8:=by
  have:=xn (zx ns 1/8) (show(0:Int)<4 by decide);have hl:(zx ns 1/8 % 4).toNat<tops.length:=by rw[h.1];omega
  refine⟨tops[(zx ns 1/8 % 4).toNat],by simp[hl],by rw[Zk];simp[hl],h.2 _ (Zl hl)⟩
theorem ng{ns tops:List Int}(h:Tops tops)(j:Nat):1<=vd ns tops j/\vd ns tops j<=8:=by
  obtain⟨t,_,e,h1,h2⟩:=h.get ns;unfold vd;rw[e];have:=xn (zx ns 2/([1,9,83,761]:List Int).getD j 0) (show 0<t by omega);omega
theorem zdf{α:Type}{xs:List α}{i:Int}(h0:0<=i){v:α}(h:xs[i.toNat]? = some v):atI xs i=some v:=by
  have:=zy h
  rwa [Yh h0]at this
def zey(K:Fg):Sp:=fun vs H Q _=>∃(a tp:Addr) (ns tops:List Int),vs=[.ref a,.ref tp]/\SqL K H a (ns.map V.int)/\SqL K H tp (tops.map V.int)/\Tops tops /\
  ∀H1 H2 H3 (o b p:Addr) (xs:List HX),Same H H1->H o=none->H1 o=some (.lst ((pz ns).map V.str))->NewHands H1 H2 b xs (v0 ns tops (uc ns))->H2 p=none->H3=upd H2 p (.tup [.ref o,.ref b])->Q (.ref p) H3
def PvH(a tp o b:Addr)(ns tops:List Int)(H1:Hp)(j:Nat):L2.St->Hp->Prop:=fun σ H'=>∃(xs:List HX) (t1 t2 t3 t4 t5:Option V),NewHands H1 H' b xs (v0 ns tops j)/\σ=[some (V.ref a),some (V.ref tp),some (V.int (zx ns 0)),some (V.int (zx ns 1)),some (V.ref o),some (V.ref b),some (V.int (wx ns tops j)),t1,t2,t3,t4,t5]
def PvG(a tp o b g wl:Addr)(ns tops:List Int)(H5:Hp)(j:Nat)(m:Nat):L2.St->Hp->Prop:=fun σ H'=>∃(gs:List Addr) (t2 t5:Option V),NewGrid H5 H' g gs (u4 ns (wx ns tops j) (xj ns) m) m (xj ns)/\σ=[some (V.ref a),some (V.ref tp),some (V.int (zx ns 0)),some (V.int (zx ns 1)),some (V.ref o),some (V.ref b),some (V.int ((wx ns tops j+m*xj ns:Nat):Int)),some (V.int j),t2,some (V.ref wl),some (V.ref g),t5]
def PvR(ns:List Int)(H6:Hp)(k:Nat)(i:Nat)(ys:List V)(H':Hp):Prop:=H'=H6/\ys=(rowA ns k i).map V.int
section
variable{P:Program}{w:World}{K:Fg}{mg:Str->Option Value}{base:Heap}
theorem j9 (B:Bt mg) (xh:FnAt P w K mg base "_law_cell_at" 1 ["script", "k"] (gf K)) (qu:FnAt P w K mg base "_law_pool" 1 ["cell", "many"] zhq) (jw:FnAt P w K mg base "_law_worth" 1 ["cell"] zeu) (v7:FnAt P w K mg base "_law_drawn" 2 ["script", "k"] (zaz K))
    (D:zc K mg "_law_parts" p8 ["script", "tops"]):FnAt P w K mg base "_law_parts" 3 ["script", "tops"] (zey K):=by
  refine FnAt.of D sc_law_parts (fun vs H Q E h => ?_) (fun f cdv A outer s H vs Q E hr h => ?_)
  . obtain⟨a,tp,ns,tops,rfl,_⟩:=h
    rfl
  . obtain⟨a,tp,ns,tops,rfl,hS,hT,ht,q⟩:=h
    refine⟨_,(@zj _ _ _ _ _ (zw (i:=2) sc_law_parts.nd rfl (Or.inl rfl) (zi xh (hr.mono (by decide)) rfl (za (pv 0) (za (@zg _ _ _ _) (@zb _))))) (@zj _ _ _ _ _ (zw (i:=3) sc_law_parts.nd rfl (Or.inl rfl) (zi xh (hr.mono (by decide)) rfl (za (pv 0) (za (@zg _ _ _ _) (@zb _))))) (@zj _ _ _ _ _ (zw (i:=4) sc_law_parts.nd rfl (Or.inl rfl) (zi qu (hr.mono (by decide)) rfl (za (pv 2) (za (@zl _ _ _ _ _ _ _ _ yo (@zg _ _ _ _) (@zl _ _ _ _ _ _ _ _ ym (pv 3) (@zg _ _ _ _))) (@zb _))))) (@zj _ _ _ _ _ (zw (i:=5) sc_law_parts.nd rfl (Or.inl rfl) (@w9 _ _ _ _ (@zb _))) (@zj _ _ _ _ _ (zw (i:=6) sc_law_parts.nd rfl (Or.inr rfl) (@zg _ _ _ _)) (@zj _ _ _ _ _ (we PassesOwn.never rfl (yv rfl B.range (za (@zl _ _ _ _ _ _ _ _ yo (@zg _ _ _ _) (@zl _ _ _ _ _ _ _ _ ym (@zl _ _ _ _ _ _ _ _ wm (pv 3) (@zg _ _ _ _)) (@zg _ _ _ _))) (@zb _))) (zn (i:=7) sc_law_parts.nd rfl (Or.inl rfl)) (@zj _ _ _ _ _ (zw (i:=8) sc_law_parts.nd rfl (Or.inl rfl) (@zl _ _ _ _ _ _ _ _ yo (@zg _ _ _ _) (@zl _ _ _ _ _ _ _ _ ym (@zl _ _ _ _ _ _ _ _ wm (zi xh (hr.mono (by decide)) rfl (za (pv 0) (za (@zg _ _ _ _) (@zb _)))) (@z0 _ _ _ _ _ _ _ yf (@w9 _ _ _ _ (za (@zg _ _ _ _) (za (@zg _ _ _ _) (za (@zg _ _ _ _) (za (@zg _ _ _ _) (@zb _)))))) (pv 7) (fun _ _=>rfl))) (@z0 _ _ _ _ _ _ _ yf (pv 1) (@zl _ _ _ _ _ _ _ _ ym (@zl _ _ _ _ _ _ _ _ wm (pv 3) (@zg _ _ _ _)) (@zg _ _ _ _)) (fun _ _=>rfl))))) (@zj _ _ _ _ _ (zw (i:=9) sc_law_parts.nd rfl (Or.inl rfl) (zi qu (hr.mono (by decide)) rfl (za (@z0 _ _ _ _ _ _ _ yf (@w9 _ _ _ _ (za (pv 2) (za (@zl _ _ _ _ _ _ _ _ yo (@zl _ _ _ _ _ _ _ _ wm (pv 2) (@zg _ _ _ _)) (pv 7)) (za (@zl _ _ _ _ _ _ _ _ yo (zi xh (hr.mono (by decide)) rfl (za (pv 0) (za (@zg _ _ _ _) (@zb _)))) (@zl _ _ _ _ _ _ _ _ qk (@zg _ _ _ _) (pv 7))) (@zb _))))) (@zl _ _ _ _ _ _ _ _ ym (@zl _ _ _ _ _ _ _ _ wm (pv 3) (@zg _ _ _ _)) (@zg _ _ _ _)) (fun _ _=>rfl)) (za (pv 8) (@zb _))))) (@zj _ _ _ _ _ (zw (i:=10) sc_law_parts.nd rfl (Or.inl rfl) (@w9 _ _ _ _ (@zb _))) (@zj _ _ _ _ _ (we PassesOwn.never rfl (@yk _ _ _ _ (pv 9)) (zn (i:=11) sc_law_parts.nd rfl (Or.inl rfl)) (@zj _ _ _ _ _ (rh (qo PySem.F.plainAttrs_list PySem.F.slot_list_append PySem.F.type_list_append je (pv 10) (za (yg ["i"] ["script", "tops", "first", "shape", "outcomes", "hands", "k", "j", "size", "words", "worths", "word"] rfl (yv rfl B.range (za (zq zt rfl B.len yc (za (pv 4) (@zb _))) (@zb _))) (fun _=>(zn (i:=0) (show(["i", "script", "tops", "first", "shape", "outcomes", "hands", "k", "j", "size", "words", "worths", "word"]:List Str).Nodup by decide +kernel) rfl (Or.inl rfl))) (fun _=>(@z9 _)) (fun _=>(zi jw (hr.mono (by decide)) rfl (za (zi v7 (hr.mono (by decide)) rfl (za (pv 1) (za (@zl _ _ _ _ _ _ _ _ yo (pv 7) (pv 0)) (@zb _)))) (@zb _)))) rfl (by decide +kernel) rfl rfl) (@zb _)))) (@zh _ _ _ (zw (i:=6) sc_law_parts.nd rfl (Or.inr rfl) (@zl _ _ _ _ _ _ _ _ yo (pv 6) (zq zt rfl B.len yc (za (pv 4) (@zb _)))))))) (@zh _ _ _ (rh (qo PySem.F.plainAttrs_list PySem.F.slot_list_append PySem.F.type_list_append je (pv 5) (@za _ _ _ _ _ (@wg _ _ _ _ _ (@za _ _ _ _ _ (@z0 _ _ _ _ _ _ _ yf (zi qu (hr.mono (by decide)) rfl (@za _ _ _ _ _ (@z0 _ _ _ _ _ _ _ yf (@w9 _ _ _ _ (@za _ _ _ _ _ (pv 2) (@za _ _ _ _ _ (@zl _ _ _ _ _ _ _ _ yo (@zl _ _ _ _ _ _ _ _ wm (pv 2) (@zg _ _ _ _)) (@zg _ _ _ _)) (@zb _) (yd nofun)) (yd nofun))) (@zl _ _ _ _ _ _ _ _ ym (@zl _ _ _ _ _ _ _ _ wm (pv 3) (@zg _ _ _ _)) (@zg _ _ _ _)) (fun _ _=>rfl)) (@za _ _ _ _ _ (@zg _ _ _ _) (@zb _) (yd nofun)) (yd nofun))) (pv 7) (fun _ _=>rfl)) (@za _ _ _ _ _ (pv 9) (@za _ _ _ _ _ (pv 10) (@zb _) (yd nofun)) (yd nofun)) (yd nofun))) (@zb _) (yd nofun)))))))))) (@zh _ _ _ (@zm _ _ _ _ (@wg _ _ _ _ _ (za (pv 4) (za (pv 5) (@zb _)))))))))))),?_⟩;rw[show start ["script", "tops", "first", "shape", "outcomes", "hands", "k", "j", "size", "words", "worths", "word"] [V.ref a,V.ref tp]=[some (V.ref a),some (V.ref tp),none,none,none,none,none,none,none,none,none,none] from rfl]
    (try dsimp only[xp,e_C,e_op,e_rI,xq,xt,x6,xx,x9,y4,e_B,x0,e_or,wb,x5,x8,y9,xw,y3,xz,xu,xy,yi,xr,y0,wc,xv,y7,e_CB,e_BM,y8,e_iL,wa,y6,cxK,noxK,xc,yz,yl]);(try simp only[zf,ze,↓reduceIte])
    refine⟨a,ns,0,rfl,hS,?_⟩;simp only[zf,ze,↓reduceIte];refine⟨a,ns,1,rfl,hS,?_⟩;simp only[zf,ze,↓reduceIte];refine⟨by decide,zx ns 0,xj ns,?_,?_,fun H1 o S1 ho ho1 => ?_⟩
    . have:=xn (zx ns 1) (show(0:Int)<8 by decide)
      rw[show((xj ns:Nat):Int)=1+zx ns 1 % 8 by unfold xj;omega]
    . have:=k9 ns;omega
    simp only[zf,ze,↓reduceIte];refine⟨by decide,fun b hb => ?_⟩;have hh:=xn (zx ns 1/8) (show(0:Int)<4 by decide);have hN:=jb ns;have hO:=k9 ns;refine⟨⟨by decide,by decide⟩,by decide,by omega,by omega,?_⟩;rw[show(1+zx ns 1/8 % 4).toNat=uc ns from rfl];refine vg (PvH a tp o b ns tops H1) ⟨[],_,_,_,_,_,NewHands.nil (Same.refl _) hb,rfl⟩ ?_ ?_
    . rintro j σ H' hj ⟨xs,t1,t2,t3,t4,t5,G,rfl⟩
      simp only[zf,ze,↓reduceIte];have SA:=S1.trans G.same;refine⟨a,ns,2,rfl,SA.seq hS,by decide,fun p1 hp1 => ?_⟩;have S2:Same H' (upd H' p1 (.lst [V.int 1,V.int 9,V.int 83,V.int 761])):=Same.upd (Same.refl _) hp1;have hl2:upd H' p1 (.lst [V.int 1,V.int 9,V.int 83,V.int 761]) p1=some (.lst [V.int 1,V.int 9,V.int 83,V.int 761]):=zd;generalize upd H' p1 (.lst [V.int 1,V.int 9,V.int 83,V.int 761])=H2 at *
      have hdiv:[V.int 1,V.int 9,V.int 83,V.int 761][j]? = some (V.int (([1,9,83,761]:List Int).getD j 0))/\0<([1,9,83,761]:List Int).getD j 0/\([1,9,83,761]:List Int).getD j 0<1073741824:=by
        have:∀k:Fin 4,[V.int 1,V.int 9,V.int 83,V.int 761][k.val]? = some (V.int (([1,9,83,761]:List Int).getD k.val 0))/\0<([1,9,83,761]:List Int).getD k.val 0/\([1,9,83,761]:List Int).getD k.val 0<1073741824:=by decide
        exact this ⟨j,by omega⟩
      refine⟨_,.of hl2,_,zy hdiv.1,?_⟩;simp only[zf,ze,↓reduceIte];obtain⟨t,et,et2,ht1,ht2⟩:=ht.get ns;refine⟨⟨hdiv.2.1,hdiv.2.2⟩,⟨by decide,by decide⟩,by decide,_,(SA.trans S2).seq hT,_,zdf hh.1 (v:=V.int t) (by rw[Ze,et];rfl),?_⟩;simp only[zf,ze,↓reduceIte];refine⟨by omega,⟨by decide,by decide⟩,a,ns,3,rfl,(SA.trans S2).seq hS,?_⟩;simp only[zf,ze,↓reduceIte];refine⟨.inl ⟨by decide,by decide⟩,by decide,fun p2 hp2 => ?_⟩;have S3:Same H2 (upd H2 p2 (.lst [V.int (zx ns 0),V.int (zx ns 0/5+j),V.int (zx ns 3+31*j)])):=Same.upd (Same.refl _) hp2;have hl3:upd H2 p2 (.lst [V.int (zx ns 0),V.int (zx ns 0/5+j),V.int (zx ns 3+31*j)]) p2=some (.lst [V.int (zx ns 0),V.int (zx ns 0/5+j),V.int (zx ns 3+31*j)]):=zd;generalize upd H2 p2 (.lst [V.int (zx ns 0),V.int (zx ns 0/5+j),V.int (zx ns 3+31*j)])=H3 at *;have h32:=xn (zx ns 1/32) (show(0:Int)<3 by decide)
      have hw3:[V.int (zx ns 0),V.int (zx ns 0/5+j),V.int (zx ns 3+31*j)][(zx ns 1/32 % 3).toNat]? = some (V.int (iq ns j)):=by
        unfold iq;have:(zx ns 1/32 % 3).toNat<3:=by omega
        generalize (zx ns 1/32 % 3).toNat=m at this ⊢
        match m,this with
        | 0,_=>rfl
        | 1,_=>rfl
        | 2,_=>rfl
      refine⟨⟨by decide,by decide⟩,by decide,_,.of hl3,_,zdf h32.1 hw3,iq ns j,vd ns tops j,?_,?_,fun H4 wl S4 hwl hwl4 => ?_⟩
      . have:=xn (zx ns 2/([1,9,83,761]:List Int).getD j 0) (show 0<t by omega)
        rw[show((vd ns tops j:Nat):Int)=1+zx ns 2/([1,9,83,761]:List Int).getD j 0 % t by unfold vd;rw[et2];omega]
      . have:=ng (ns:=ns) ht j;omega
      refine⟨by decide,fun g hg => ?_⟩;have hwN:=ng (ns:=ns) ht j;have SB:=(SA.trans S2).trans (S3.trans S4);have GG:=(G.more S2).more (S3.trans S4);have hwg:upd H4 g (.lst []) wl=some (.lst ((w5 (iq ns j) (vd ns tops j)).map V.str)):=by rw[zp (wf hwl4 hg)];exact hwl4
      refine⟨_,rfl,⟨_,.of hwg⟩,?_⟩;refine uk (K:=K) (xs:=(w5 (iq ns j) (vd ns tops j)).map V.str) (PvG a tp o b g wl ns tops H4 j) ⟨[],_,_,NewGrid.nil (Same.refl _) hg,by rw[Nat.zero_mul,Nat.add_zero]⟩ ?_ ?_ ?_
      . rintro m σ H5 hm ⟨gs,t2,t5,NG,rfl⟩
        exact .of (NG.same _ _ hwl4)
      . rintro m x σ H5 hx ⟨gs,t2,t5,NG,rfl⟩
        simp only[zf,ze,↓reduceIte];have So:Same H1 H5:=(G.same.trans (S2.trans (S3.trans S4))).trans NG.same;have ho5:H5 o=some (.lst ((pz ns).map V.str)):=So _ _ ho1
        have hm:m<vd ns tops j:=by
          have:=(Zc.mp hx).1;rw[Za,vh]at this;exact this
        have hol:((pz ns).map V.str).length=xj ns:=by rw[Za,pz,vh]
        refine⟨.inl ⟨rfl,_,.of NG.at'⟩,_,.inl (.of ho5),?_⟩;rw[hol,Zw];refine⟨by omega,by omega,fun d => ?_⟩;refine wp (PvR ns H5 (wx ns tops j+m*xj ns)) ⟨rfl,rfl⟩ ?_ ?_ ?_
        . rintro i ys H6 hi ⟨rfl,rfl⟩
          rw[Za,cn];exact Zd (show i<=8 by omega) (by decide)
        . rintro i ys H6 hi ⟨rfl,rfl⟩
          simp only[zf,ze,↓reduceIte];refine⟨a,ns,wx ns tops j+m*xj ns+i,?_,(S1.trans So).seq hS,?_⟩
          . rw[show((wx ns tops j+m*xj ns:Nat):Int)+(i:Int)=((wx ns tops j+m*xj ns+i:Nat):Int) by omega]
          refine⟨_,rfl,rfl,?_⟩;rw[zhm,Zn];rfl
        . rintro ys H6 ⟨rfl,rfl⟩ l hl
          have hgl:g≠l:=wf NG.at' hl;refine⟨gs.map V.ref,by rw[zp hgl];exact NG.at',?_,(pz ns).map V.str,.inl ?_,?_⟩
          . rw[Za,NG.lb]
            exact Zh hm (Zd hwN.2 (by decide))
          . have hog:o≠g:=fun e=>by
              have h1:=(G.same.trans (S2.trans (S3.trans S4))) _ _ ho1;rw[e,hg]at h1;cases h1
            have hol2:o≠l:=wf ho5 hl;exact .of (by rw[zp hog,zp hol2];exact ho5)
          . have NG2:=NG.laid (c:=l) (o:=.lst ((rowA ns (wx ns tops j+m*xj ns) (xj ns)).map V.int)) hl
            have NG3:=NG2.snoc (c:=l) (ns:=rowA ns (wx ns tops j+m*xj ns) (xj ns)) (NG.same.free hl) zd (cn ..) (fun z=>by
              obtain⟨k,hk,e⟩:=Zy z;have e1:gs[k]? = some l:=by rw[<-e];simp[hk]
              have hk2:k<(u4 ns (wx ns tops j) (xj ns) m).length:=by rw[NG.lr,<-NG.lb];exact hk
              have e2:(u4 ns (wx ns tops j) (xj ns) m)[k]? = some (u4 ns (wx ns tops j) (xj ns) m)[k]:=by simp[hk2]
              have:=(NG.row k l _ e1 e2).1
              rw[hl]at this;cases this) (Ne.symm hgl)
            refine⟨gs++[l],t2,some x,?_,?_⟩
            . rw[zf8]
              exact NG3
            . rw[hol,show((wx ns tops j+m*xj ns:Nat):Int)+(xj ns:Int)=((wx ns tops j+(m+1)*xj ns:Nat):Int) by rw[Nat.succ_mul];omega]
      . rintro σ H5 ⟨gs,t2,t5,NG,rfl⟩
        rw[Za,vh]at NG ⊢;simp only[zf,ze,↓reduceIte];have S5:=NG.same;have GH:=GG.more S5;have hb5:=GH.at';refine⟨.inl ⟨rfl,_,.of hb5⟩,⟨by decide,by decide⟩,by decide,fun p3 hp3 => ?_⟩;have S6:Same H5 (upd H5 p3 (.lst [V.int (zx ns 0),V.int (zx ns 0/7+2)])):=Same.upd (Same.refl _) hp3;have hl6:upd H5 p3 (.lst [V.int (zx ns 0),V.int (zx ns 0/7+2)]) p3=some (.lst [V.int (zx ns 0),V.int (zx ns 0/7+2)]):=zd;generalize upd H5 p3 (.lst [V.int (zx ns 0),V.int (zx ns 0/7+2)])=H6 at *;have h96:=xn (zx ns 1/96) (show(0:Int)<2 by decide)
        have hw6:[V.int (zx ns 0),V.int (zx ns 0/7+2)][(zx ns 1/96 % 2).toNat]? = some (V.int (sh ns)):=by
          unfold sh;have:(zx ns 1/96 % 2).toNat<2:=by omega
          generalize (zx ns 1/96 % 2).toNat=m at this ⊢
          match m,this with
          | 0,_=>rfl
          | 1,_=>rfl
        refine⟨⟨by decide,by decide⟩,by decide,_,.of hl6,_,zdf h96.1 hw6,sh ns,4,rfl,by decide,fun H7 l S7 hl hl7 => ?_⟩;have hj4:j<4:=by omega
        refine⟨_,rfl,_,.of hl7,V.str (uh (sh ns) j),?_,by decide,fun tt htt => ?_⟩
        . refine zy ?_
          rw[Ze,w5,Ze,List.getElem?_range hj4];rfl
        have S57:=S6.trans S7;have S8:Same H7 (upd H7 tt (.tup [V.str (uh (sh ns) j),V.ref wl,V.ref g])):=Same.upd (Same.refl _) htt;have htt8:upd H7 tt (.tup [V.str (uh (sh ns) j),V.ref wl,V.ref g]) tt=some (.tup [V.str (uh (sh ns) j),V.ref wl,V.ref g]):=zd;generalize upd H7 tt (.tup [V.str (uh (sh ns) j),V.ref wl,V.ref g])=H8 at *;have S58:=S57.trans S8;have G7:=GH.more S57;have G8:=GH.more S58;have hb8:=G8.at';have hd:HandAt H8 ⟨tt,wl,g,gs⟩ (zb7 ns tops j):=⟨htt8,S58 _ _ (S5 _ _ hwl4),S58 _ _ NG.at',by rw[NG.lb];exact(zbj ..).symm,fun i r ms e1 e2=>S58 _ _ (NG.row i r ms e1 e2).1⟩
        have h4:∀y∈g::gs,H4 y=none:=fun y hy=>by
          rcases ZK.mp hy with e | z
          . rw[e];exact hg
          . exact NG.nr y z
        have S14:Same H1 H4:=GG.same;have S13:Same H1 H3:=G.same.trans (S2.trans S3)
        have h5:∀y∈wl::g::gs,H5 y≠none:=fun y hy=>by
          rcases ZK.mp hy with e | z
          . rw[e,S5 _ _ hwl4];simp
          rcases ZK.mp z with e | z
          . rw[e,NG.at'];simp
          . obtain⟨k,hk,e⟩:=Zy z
            have e1:gs[k]? = some y:=by rw[<-e];simp[hk]
            have hk2:k<(u4 ns (wx ns tops j) (xj ns) (vd ns tops j)).length:=by rw[NG.lr,<-NG.lb];exact hk
            have e2:(u4 ns (wx ns tops j) (xj ns) (vd ns tops j))[k]? = some (u4 ns (wx ns tops j) (xj ns) (vd ns tops j))[k]:=by simp[hk2]
            rw[(NG.row k y _ e1 e2).1];simp
        have htt5:H5 tt=none:=S57.free htt;have G3:=(G.more S2).more S3;refine⟨_,hb8,?_,?_⟩
        . rw[Za,G.len,v0,Za,ZY]
          exact Zh hj4 (by decide)
        refine⟨xs++[⟨tt,wl,g,gs⟩],_,_,_,_,_,?_,rfl⟩;rw[zeb];refine G8.snoc hd (fun y hy => ?_) ?_ (fun y hy => ?_) ?_
        . rcases ZK.mp hy with e | hy
          . rw[e];exact(S14.trans S5).free htt5
          rcases ZK.mp hy with e | hy
          . rw[e];exact S13.free hwl
          . exact S14.free (h4 y hy)
        . refine ZZ.mpr ⟨fun z=>h5 _ z htt5,ZZ.mpr ⟨fun z => ?_,ZZ.mpr ⟨NG.ne,NG.nd⟩⟩⟩
          have:=h4 _ z;rw[hwl4]at this;cases this
        . intro hz
          rcases ZK.mp hy with e | hy
          . rw[e]at hz;exact G7.old _ hz htt
          rcases ZK.mp hy with e | hy
          . rw[e]at hz;exact G3.old _ hz hwl
          . exact GG.old _ hz (h4 y hy)
        . intro hy
          rcases ZK.mp hy with e | hy
          . have:=G7.at'
            rw[e,htt]at this;cases this
          rcases ZK.mp hy with e | hy
          . have:=G3.at'
            rw[e,hwl]at this;cases this
          . have:=GG.at'
            rw[h4 _ hy]at this;cases this
    . rintro σ H' ⟨xs,t1,t2,t3,t4,t5,G,rfl⟩
      simp only[zf,ze,↓reduceIte];exact⟨by decide,fun p hp=>q H1 H' _ o b p xs S1 ho ho1 G hp rfl⟩
end
def mi(z:Str):Prop:=1<=z.length/\z.length<=8/\∀c∈z.cps.toList,97<=c/\c<=122
theorem zft(i:Int):97<=letA i/\letA i<=122:=by
  have:=xn i (show(0:Int)<26 by decide);unfold letA;omega
theorem gj{z:Str}{n c:Nat}(h:c∈(wy z n).cps.toList):c∈z.cps.toList:=by
  unfold wy at h;simp only[List.toList_toArray,YS]at h;obtain⟨l,h1,h2⟩:=h;rw[(List.mem_replicate.mp h1).2]at h2;exact h2
theorem d8{y z:Str}{c:Nat}(h:c∈(y++z).cps.toList):c∈y.cps.toList\/c∈z.cps.toList:=by
  have:(y++z).cps.toList=y.cps.toList++z.cps.toList:=by
    show(y.cps++z.cps).toList=_
    simp
  rw[this]at h;exact ZH.mp h
theorem zce(c:Int):1<=tw c/\tw c<=8:=by
  have:=xn (numA c/24336) (show(0:Int)<8 by decide);unfold tw;omega
theorem zh0(c:Int):0<=qg c/\qg c<tw c:=xn _ (by have:=zce c;omega)
theorem jm(c:Int):(jl c).length=1:=rfl
theorem f8{c:Int}{d:Nat}(h:d∈(jl c).cps.toList):97<=d/\d<=122:=by
  have:d=letA (numA c):=by simpa[jl,chr1] using h
  rw[this];exact zft _
theorem al(c:Int){k:Nat}(hk:k<8):mi (uh c k):=by
  unfold uh;have hs:=zce c;have hp:=zh0 c
  by_cases h:numA c/26 % 3=1
  . rw[if_pos h]
    refine⟨?_,?_,fun d hd=>f8 (gj hd)⟩ <;> rw[vc,jm] <;> omega
  . rw[if_neg h]
    refine⟨?_,?_,fun d hd => ?_⟩
    . rw[sg,sg,vc,vc,jm]
      show 1<=_+1+_
      omega
    . rw[sg,sg,vc,vc,jm]
      show _+1+_<=8
      omega
    . rcases d8 hd with z | z
      . rcases d8 z with z | z
        . exact f8 (gj z)
        . have:d=letA (numA c/78 % 26+rq c*k):=by simpa[chr1] using z
          rw[this];exact zft _
      . exact f8 (gj z)
theorem zk7{x y:Str}{n:Nat}{a b:Nat}(f:Str)(h:wy f n++chr1 a++x=wy f n++chr1 b++y):a=b:=by
  have h1:(wy f n++chr1 a++x).cps.toList=(wy f n++chr1 b++y).cps.toList:=by rw[h]
  have e:∀(z:Str) (a:Nat),(wy f n++chr1 a++z).cps.toList=(wy f n).cps.toList++([a]++z.cps.toList):=fun z a=>by
    show(((wy f n).cps++(chr1 a).cps)++z.cps).toList=_
    simp[chr1]
  rw[e,e]at h1;have:=List.append_cancel_left h1;simp at this;exact this.1
theorem zd1(c:Int):rq c∈stepsA:=by
  have:=xn (numA c/2028) (show(0:Int)<12 by decide);unfold rq;have hl:(numA c/2028 % 12).toNat<stepsA.length:=by show _<12;omega
  rw[Zk,Zb hl];exact Zl hl
theorem zj3{c:Int}{b:Int}{i j:Nat}(hi:i<13)(hj:j<13)(h:letA (b+rq c*i)=letA (b+rq c*j)):i=j:=by
  have hs:=zd1 c;generalize rq c=st at hs h;have h1:=xn (b+st*i) (show(0:Int)<26 by decide);have h2:=xn (b+st*j) (show(0:Int)<26 by decide);have h3:(b+st*i) % 26=(b+st*j) % 26:=by unfold letA at h;omega
  simp only[stepsA,ZK,Zx,or_false]at hs
  rcases hs with rfl | rfl | rfl | rfl | rfl | rfl | rfl | rfl | rfl | rfl | rfl | rfl <;> omega
theorem zjm(c:Int){i j:Nat}(hi:i<13)(hj:j<13)(h:uh c i=uh c j):i=j:=by
  unfold uh at h
  by_cases q:numA c/26 % 3=1
  . rw[if_pos q,if_pos q]at h
    have:=congrArg Str.length h;rw[vc,vc,jm]at this;omega
  . rw[if_neg q,if_neg q]at h
    exact zj3 hi hj (zk7 _ h)
theorem j7(c:Int){n:Nat}(hn:n<=13):(w5 c n).Nodup:=by
  unfold w5;refine Yw.mpr ?_;refine List.Pairwise.imp_of_mem ?_ (List.nodup_range (n:=n));intro i j hi hj hne e;exact hne (zjm c (by have:=ZP.mp hi;omega) (by have:=ZP.mp hj;omega) e)
theorem a9(c:Int){n:Nat}(hn:n<=8):∀z∈w5 c n,mi z:=fun z hz=>by
  obtain⟨i,hi,rfl⟩:=Zp.mp hz;exact al c (by have:=ZP.mp hi;omega)
theorem zi4(c:Int) : -(10^60)<kz c/\kz c<10^60:=by
  unfold kz;have h1:=xn (c/5) (show(0:Int)<10^18 by decide);have h2:=xn (c/5) (show(0:Int)<2*10^57-1 by decide);have h3:=xn (c/5) (show(0:Int)<19 by decide)
  split
  . omega
  . split
    . omega
    . split
      . exact⟨by decide,by decide⟩
      . omega
structure HandsL(H:Hp)(b:Addr)(xs:List HX)(ds:List HD):Prop where
  at':H b=some (.lst (xs.map fun x=>V.ref x.t))
  len:xs.length=ds.length
  hand:∀(i:Nat) (x:HX) (d:HD),xs[i]? = some x->ds[i]? = some d->HandAt H x d
theorem NewHands.lists{H H':Hp}{b:Addr}{xs:List HX}{ds:List HD}(g:NewHands H H' b xs ds):HandsL H' b xs ds:=⟨g.at',g.len,g.hand⟩
theorem HandsL.mono{H H':Hp}{b:Addr}{xs:List HX}{ds:List HD}(S:Same H H')(g:HandsL H b xs ds):HandsL H' b xs ds:=⟨S _ _ g.at',g.len,fun i x d e1 e2=>(g.hand i x d e1 e2).mono S⟩
section
variable{P:Program}{w:World}{K:Fg}{mg:Str->Option Value}{base:Heap}
end
mutual
def tups:Tr->Bool
  | .lf _=>true
  | .ls _=>false
  | .tp ts=>tupss ts
def tupss:List Tr->Bool
  | []=>true
  | t::ts=>tups t&&tupss ts
end
structure GoodHouse(outs:List Str)(ds:List HD):Prop where
  outs1:1<=outs.length/\outs.length<=8
  outsG:∀z∈outs,mi z
  outsD:outs.Nodup
  hands:1<=ds.length/\ds.length<=4
  handsG:∀d∈ds,mi d.name
  handsD:(ds.map HD.name).Nodup
  words1:∀d∈ds,1<=d.words.length/\d.words.length<=8
  wordsG:∀d∈ds,∀z∈d.words,mi z
  wordsD:∀d∈ds,d.words.Nodup
  rows:∀d∈ds,d.worths.length=d.words.length
  cols:∀d∈ds,∀r∈d.worths,r.length=outs.length
  nums:∀d∈ds,∀r∈d.worths,∀n∈r,-(10^60)<n/\n<10^60
  few:(ds.map fun d=>d.words.length).prod<=256
theorem vy{ns tops:List Int}{m:Nat}{d:HD}(h:d∈v0 ns tops m):∃j,j<m/\d=zb7 ns tops j:=by
  obtain⟨j,hj,rfl⟩:=Zp.mp h;exact⟨j,ZP.mp hj,rfl⟩
theorem zk5{n t:Nat}:∀{l:List Nat},(∀x∈l,x<=t)->l.length=n->l.prod<=t^n:=by
  induction n with
  | zero=>intro l _ hl;rw[Yr.mp hl];simp
  | succ n ih =>
    intro l h hl
    match l,hl with
    | x::l,hl =>
      rw[List.prod_cons,Nat.pow_succ,Nat.mul_comm];exact YK (ih (fun y hy=>h y (Zv _ hy)) (by simpa using hl)) (h x ZA)
def FewT(tops:List Int):Prop:=∀h,h<4->(tops.getD h 0).toNat^(h+1)<=256
theorem goodA(ns:List Int){tops:List Int}(ht:Tops tops)(hf:FewT tops):GoodHouse (pz ns) (v0 ns tops (uc ns)) where
  outs1:=by rw[pz,vh];exact k9 ns
  outsG:=a9 _ (k9 ns).2
  outsD:=j7 _ (by have:=k9 ns;omega)
  hands:=by rw[v0,Za,ZY];exact jb ns
  handsG:=fun d hd=>by
    obtain⟨j,hj,rfl⟩:=vy hd;exact al _ (by have:=jb ns;omega)
  handsD:=by
    have:(v0 ns tops (uc ns)).map HD.name=w5 (sh ns) (uc ns):=by rw[v0,w5,YZ];rfl
    rw[this];exact j7 _ (by have:=jb ns;omega)
  words1:=fun d hd=>by
    obtain⟨j,hj,rfl⟩:=vy hd
    show 1<=(w5 _ _).length/\(w5 _ _).length<=8
    rw[vh];exact ng ht j
  wordsG:=fun d hd=>by
    obtain⟨j,hj,rfl⟩:=vy hd;exact a9 _ (ng ht j).2
  wordsD:=fun d hd=>by
    obtain⟨j,hj,rfl⟩:=vy hd;exact j7 _ (by have:=ng (ns:=ns) ht j;omega)
  rows:=fun d hd=>by
    obtain⟨j,hj,rfl⟩:=vy hd
    show(u4 _ _ _ _).length=(w5 _ _).length
    rw[zbj,vh]
  cols:=fun d hd r hr=>by
    obtain⟨j,hj,rfl⟩:=vy hd;obtain⟨i,_,rfl⟩:=Zp.mp hr;rw[cn,pz,vh]
  nums:=fun d hd r hr n hn=>by
    obtain⟨j,hj,rfl⟩:=vy hd;obtain⟨i,_,rfl⟩:=Zp.mp hr;obtain⟨k,_,rfl⟩:=Zp.mp hn;exact zi4 _
  few:=by
    obtain⟨t,e1,e2,h1,h2⟩:=ht.get ns;have hh:=xn (zx ns 1/8) (show(0:Int)<4 by decide);have h3:=hf (zx ns 1/8 % 4).toNat (by omega);rw[e2]at h3;refine Zd (zk5 (n:=uc ns) (t:=t.toNat) (fun x hx => ?_) (by rw[Za,v0,Za,ZY])) ?_
    . obtain⟨d,hd,rfl⟩:=Zp.mp hx
      obtain⟨j,hj,rfl⟩:=vy hd
      show(w5 _ _).length<=_
      rw[vh];unfold vd;rw[e2];have:=xn (zx ns 2/([1,9,83,761]:List Int).getD j 0) (show 0<t by omega);omega
    . rw[show uc ns=(zx ns 1/8 % 4).toNat+1 by unfold uc;omega]
      exact h3
def zb5(i:Int):Prop := -(10^60)<i/\i<10^60
def zcu:Sp:=fun vs H Q _=>∃i:Int,vs=[.int i]/\Q (.bl true) H
def zi5:Sp:=fun vs H Q _=>∃i:Int,vs=[.int i]/\zb5 i/\Q (.bl true) H
def qRow:Sp:=fun vs H Q _=>∃(r:Addr) (ns:List Int) (n:Nat),vs=[.ref r,.int n]/\H r=some (.lst (ns.map V.int))/\ns.length=n/\n<=8/\(∀i∈ns,zb5 i)/\∀H',Same H H'->Q (.bl true) H'
def zhc:Sp:=fun vs H Q _=>∃z:Str,vs=[.str z]/\mi z/\∀H',Same H H'->Q (.bl true) H'
def zcw:Sp:=fun vs H Q _=>∃(l:Addr) (zs:List Str) (m:Nat),vs=[.ref l,.int m]/\H l=some (.lst (zs.map V.str))/\1<=zs.length/\zs.length<=m/\m<=8/\(∀z∈zs,mi z)/\zs.Nodup/\∀H',Same H H'->Q (.bl true) H'
def zeq:Sp:=fun vs H Q _=>∃(g:Addr) (gs:List Addr) (rows:List (List Int)) (h n:Nat),vs=[.ref g,.int h,.int n]/\H g=some (.lst (gs.map V.ref))/\gs.length=h/\rows.length=h/\h<=8/\n<=8/\(∀(i:Nat) (r:Addr) (ns:List Int),gs[i]? = some r->rows[i]? = some ns->H r=some (.lst (ns.map V.int))) /\
  (∀r∈rows,r.length=n/\∀i∈r,zb5 i)/\∀H',Same H H'->Q (.bl true) H'
structure GoodD(d:HD)(n:Nat):Prop where
  name:mi d.name
  words:1<=d.words.length/\d.words.length<=8
  wordsG:∀z∈d.words,mi z
  wordsD:d.words.Nodup
  rows:d.worths.length=d.words.length
  cols:∀r∈d.worths,r.length=n/\∀i∈r,zb5 i
theorem GoodHouse.hand{outs:List Str}{ds:List HD}(g:GoodHouse outs ds){d:HD}(h:d∈ds):GoodD d outs.length :=
  ⟨g.handsG d h,g.words1 d h,g.wordsG d h,g.wordsD d h,g.rows d h,fun r hr=>⟨g.cols d h r hr,fun i hi=>g.nums d h r hr i hi⟩⟩
def qHand:Sp:=fun vs H Q _=>∃(x:HX) (d:HD) (n:Nat),vs=[.ref x.t,.int n]/\HandAt H x d/\GoodD d n/\n<=8/\∀H',Same H H'->Q (.bl true) H'
def jj(f:HX->HD->V):Sp:=fun vs H Q _=>∃(x:HX) (d:HD),vs=[.ref x.t]/\HandAt H x d/\Q (f x d) H
def zjw:Sp:=fun vs H Q _=>∃(b:Addr) (xs:List HX) (ds:List HD),vs=[.ref b]/\HandsL H b xs ds/\(∀d∈ds,d.words.length<=8)/\ds.length<=4/\Q (.int ((ds.map fun d=>d.words.length).prod:Nat)) H
def zh4:Sp:=fun vs H Q _=>∃(o b:Addr) (outs:List Str) (xs:List HX) (ds:List HD),vs=[.ref o,.ref b]/\H o=some (.lst (outs.map V.str))/\HandsL H b xs ds/\GoodHouse outs ds/\∀H',Same H H'->Q (.bl true) H'
def allT(n:Nat):List Bool:=List.replicate n true
def PvAT(H:Hp)(i:Nat)(ys:List V)(H':Hp):Prop:=Same H H'/\ys=(allT i).map V.bl
theorem nh(n:Nat):(allT n).map V.bl++[V.bl true]=(allT (n+1)).map V.bl:=by
  rw[allT,allT,Xa,Zn];rfl
theorem l6(n:Nat):(allT n).all id=true:=by
  rw[ZR];intro x hx;exact List.eq_of_mem_replicate hx
theorem kn(n:Nat):((allT n).map V.bl).length=n:=by rw[Za,allT,ZI]
theorem zfa{zs:List Str}(hd:zs.Nodup):∀i,i<=zs.length->seen (fun j=>zs.getD j ⟨#[]⟩) i=zs.take i
  | 0,_=>rfl
  | i+1,h=>by
    have ih:=zfa hd i (by omega);have hi:i<zs.length:=by omega
    have e:zs.getD i ⟨#[]⟩=zs[i]:=by simp[Zk,hi]
    show(if zs.getD i ⟨#[]⟩∈seen (fun j=>zs.getD j ⟨#[]⟩) i then _ else seen (fun j=>zs.getD j ⟨#[]⟩) i++[zs.getD i ⟨#[]⟩])=_
    rw[ih,e,if_neg,Zq]
    . simp[hi]
    . intro hm
      obtain⟨j,hj,ej⟩:=Zy hm;rw[Zj]at hj;rw[List.getElem_take]at ej;have:=(Yy hd).mp ej;omega
theorem zl6:kit0 "str" "str" = some true:=by decide +kernel
theorem dh:kit0 "list" "list" = some true:=by decide +kernel
theorem zla:kit0 "tuple" "tuple" = some true:=by decide +kernel
theorem zle:kit0 "int" "int" = some true:=by decide +kernel
theorem zmf:kit0 "int" "bool" = some false:=by decide +kernel
theorem zmd{c:Nat}(h1:97<=c)(h2:c<=122):(!decide ((chr1 c).cps.toList<(Str.ofString "a").cps.toList))=true/\(!decide ((Str.ofString "z").cps.toList<(chr1 c).cps.toList))=true:=by
  have ea:(Str.ofString "a").cps.toList=[97]:=by decide +kernel
  have ez:(Str.ofString "z").cps.toList=[122]:=by decide +kernel
  have ec:(chr1 c).cps.toList=[c]:=rfl;rw[ea,ez,ec]
  constructor
  . rw[decide_eq_false]
    . rfl
    . intro z
      rw[List.cons_lt_cons_iff]at z
      rcases z with z | ⟨_,z⟩
      . omega
      . exact absurd z (by simp)
  . rw[decide_eq_false]
    . rfl
    . intro z
      rw[List.cons_lt_cons_iff]at z
      rcases z with z | ⟨_,z⟩
      . omega
      . exact absurd z (by simp)
def PvNm(H:Hp)(ds:List HD)(i:Nat)(ys:List V)(H':Hp):Prop:=H'=H/\ys=((ds.take i).map HD.name).map V.str
def PvCt(H:Hp)(b:Addr)(ds:List HD)(i:Nat)(σ:L2.St)(H4:Hp):Prop:=H4=H/\∃v,σ=[some (.ref b),some (.int (((ds.take i).map fun d=>d.words.length).prod:Nat)),v]
section
variable{P:Program}{w:World}{K:Fg}{mg:Str->Option Value}{base:Heap}{a:Ad}
theorem qw (B:Bt mg) (D:zc K mg "is_whole" mr ["thing"]):FnAt P w K mg base "is_whole" 1 ["thing"] zcu:=by
  refine FnAt.of D zd9 (fun vs H Q E h => ?_) (fun f cdv A outer s H vs Q E hr h => ?_)
  . obtain⟨x,rfl,_⟩:=h
    rfl
  . obtain⟨x,rfl,q⟩:=h
    refine⟨_,(@zh _ _ _ (@zm _ _ _ _ (@ou _ _ _ _ _ _ _ (zq wn rfl B.isinstance xi (za (pv 0) (za (qd rfl B.int zjf) (@zb _)))) (@k7 _ _ _ _ _ (@pe_not _ _ _ _ (zq wn rfl B.isinstance xi (za (pv 0) (za (qd rfl B.bool zmj) (@zb _))))))))),?_⟩;rw[show start ["thing"] [V.int x]=[some (V.int x)] from rfl];simp only[zf,ze,↓reduceIte];exact⟨_,.int _,true,zle,iteT ⟨_,.int _,false,zmf,q⟩⟩
theorem kq (B:Bt mg) (qw:FnAt P w K mg base "is_whole" 1 ["thing"] zcu) (D:zc K mg "is_bounded" qe ["thing"]):FnAt P w K mg base "is_bounded" 2 ["thing"] zi5:=by
  refine FnAt.of D zbz (fun vs H Q E h => ?_) (fun f cdv A outer s H vs Q E hr h => ?_)
  . obtain⟨x,rfl,_⟩:=h
    rfl
  . obtain⟨x,rfl,g,q⟩:=h
    refine⟨_,(@zh _ _ _ (@zm _ _ _ _ (@ou _ _ _ _ _ _ _ (zi qw (hr.mono (by decide)) rfl (za (pv 0) (@zb _))) (@k7 _ _ _ _ _ (@ld _ _ _ _ _ _ _ _ zag (zq zj4 rfl B.abs bt_abs (za (pv 0) (@zb _))) (@zl _ _ _ _ _ _ _ _ ip (@zg _ _ _ _) (@zg _ _ _ _)) (yt _)))))),?_⟩;rw[show start ["thing"] [V.int x]=[some (V.int x)] from rfl];simp only[zf,ze,↓reduceIte];refine⟨x,rfl,_,rfl,iteT ⟨⟨by decide,by decide,by decide⟩,?_⟩⟩;rw[decide_eq_true]
    . exact q
    . have h1:=g.1
      have h2:=g.2
      show _<(10:Int)^60
      split <;> omega
theorem nv (B:Bt mg) (kq:FnAt P w K mg base "is_bounded" 2 ["thing"] zi5) (D:zc K mg "is_grid_row" ra ["thing", "width"]):FnAt P w K mg base "is_grid_row" 3 ["thing", "width"] qRow:=by
  refine FnAt.of D zan (fun vs H Q E h => ?_) (fun f cdv A outer s H vs Q E hr h => ?_)
  . obtain⟨r,ns,n,rfl,_⟩:=h
    rfl
  . obtain⟨r,ns,n,rfl,hr1,ln,n8,hg,q⟩:=h
    refine⟨_,(@zj _ _ _ _ _ (@xg _ _ _ _ _ _ _ _ (PW.pt (@jv _ _ _ _ _ _ _ (@vm _ _ _ _ (v6 (zq wn rfl B.isinstance xi (za (pv 0) (za (qd rfl B.list ll) (@zb _)))))) (@o0 _ _ _ _ (@yn _ _ _ _ _ _ _ _ db (zq zt rfl B.len yc (za (pv 0) (@zb _))) (pv 1) (yt _))))) (@zh _ _ _ (@zm _ _ _ _ (@vz _ _ _ _))) (@ye _)) (@zh _ _ _ (@zm _ _ _ _ (zq (tj rfl) rfl B.all kj (za (yg ["worth"] ["thing", "width"] rfl (@yk _ _ _ _ (pv 0)) (fun _=>(zn (i:=0) (show(["worth", "thing", "width"]:List Str).Nodup by decide +kernel) rfl (Or.inl rfl))) (fun _=>(@z9 _)) (fun _=>(zi kq (hr.mono (by decide)) rfl (za (pv 0) (@zb _)))) rfl (by decide +kernel) rfl rfl) (@zb _)))))),?_⟩;rw[show start ["thing", "width"] [V.ref r,V.int n]=[some (V.ref r),some (V.int n)] from rfl];simp only[zf,ze,↓reduceIte];refine⟨_,.lst hr1,true,dh,iteF ⟨_,.inl (.of hr1),rfl,?_⟩⟩;rw[Za,ln];refine zf6 rfl ⟨⟨_,.of hr1⟩,fun d => ?_⟩;refine yu (xs:=ns.map V.int) (PvAT H) ⟨Same.refl _,rfl⟩ ?_ ?_ ?_
    . rintro i ys H2 hi ⟨S,rfl⟩
      rw[Za]at hi;exact⟨by rw[kn];exact Zd hi (Zd (show ns.length<=8 by omega) (by decide)),S.seq (.of hr1)⟩
    . rintro i x ys H2 hx ⟨S,rfl⟩
      obtain⟨y,hy,rfl⟩:=yp hx;simp only[zf,ze,↓reduceIte];exact⟨y,rfl,hg y (Zi hy),S,nh i⟩
    . rintro ys H2 ⟨S,rfl⟩ l hl
      refine⟨_,.of zd,?_⟩;rw[l6];exact q _ (S.trans (Same.upd (Same.refl _) hl))
theorem o9 (B:Bt mg) (D:zc K mg "is_name" ju ["thing"]):FnAt P w K mg base "is_name" 1 ["thing"] zhc:=by
  refine FnAt.of D zg0 (fun vs H Q E h => ?_) (fun f cdv A outer s H vs Q E hr h => ?_)
  . obtain⟨x,rfl,_⟩:=h
    rfl
  . obtain⟨z,rfl,g,q⟩:=h
    refine⟨_,(@zj _ _ _ _ _ (@xg _ _ _ _ _ _ _ _ (PW.pt (@jv _ _ _ _ _ _ _ (@vm _ _ _ _ (v6 (zq wn rfl B.isinstance xi (za (pv 0) (za (qd rfl B.str zhi) (@zb _)))))) (@o0 _ _ _ _ (@vm _ _ _ _ (zc7 aa aa (@zg _ _ _ _) (zq zdn rfl B.len yc (za (pv 0) (@zb _))) (ka rfl B.k_MOST_LETTERS)))))) (@zh _ _ _ (@zm _ _ _ _ (@vz _ _ _ _))) (@ye _)) (@zh _ _ _ (@zm _ _ _ _ (zq (tj rfl) rfl B.all kj (za (yg ["sign"] ["thing"] rfl (@pi_str _ _ _ _ (pv 0)) (fun _=>(zn (i:=0) (show(["sign", "thing"]:List Str).Nodup by decide +kernel) rfl (Or.inl rfl))) (fun _=>(@z9 _)) (fun _=>(zki ziu ziu (@rk _ _ _ _) (pv 0) (@rk _ _ _ _))) rfl (by decide +kernel) rfl rfl) (@zb _)))))),?_⟩;rw[show start ["thing"] [V.str z]=[some (V.str z)] from rfl];simp only[zf,ze,↓reduceIte];obtain⟨g1,g2,g3⟩:=g;refine⟨_,.str _,true,zl6,iteF ?_⟩;refine⟨Zd g2 (by decide),ite2 (fun _=>ite2 (fun h => ?_) fun _ => ?_) fun h=>(h (decide_eq_true (by omega))).elim⟩
    . rw[decide_eq_true (show(z.length:Int)<=8 by omega)]at h
      cases h
    . intro d
      refine zk2 (PvAT H) ⟨Same.refl _,rfl⟩ ?_ ?_ ?_
      . rintro i ys H' hi ⟨S,rfl⟩
        rw[kn];exact Zd hi (Zd (show z.cps.size<=8 from g2) (by decide))
      . rintro i c ys H' hc ⟨S,rfl⟩
        have hm:c∈z.cps.toList:=by
          obtain⟨hi,e⟩:=Array.getElem?_eq_some_iff.mp hc;rw[<-e];exact Array.getElem_mem_toList hi
        obtain⟨o1,o2⟩:=zmd (g3 c hm).1 (g3 c hm).2;simp only[zf,ze,↓reduceIte];rw[if_pos o1,o2];exact⟨S,nh i⟩
      . rintro ys H' ⟨S,rfl⟩ l hl
        refine⟨_,.of zd,?_⟩;rw[l6];exact q _ (S.trans (Same.upd (Same.refl _) hl))
theorem uv (B:Bt mg) (o9:FnAt P w K mg base "is_name" 1 ["thing"] zhc) (D:zc K mg "are_names" pj ["thing", "most"]):FnAt P w K mg base "are_names" 2 ["thing", "most"] zcw:=by
  refine FnAt.of D zcj (fun vs H Q E h => ?_) (fun f cdv A outer s H vs Q E hr h => ?_)
  . obtain⟨l,zs,m,rfl,_⟩:=h
    rfl
  . obtain⟨l,zs,m,rfl,hl,g1,g2,g3,gG,gD,q⟩:=h
    refine⟨_,(@zj _ _ _ _ _ (@xg _ _ _ _ _ _ _ _ (PW.pt (@jv _ _ _ _ _ _ _ (@vm _ _ _ _ (v6 (zq wn rfl B.isinstance xi (za (pv 0) (za (qd rfl B.list ll) (@zb _)))))) (@o0 _ _ _ _ (@vm _ _ _ _ (zc7 aa aa (@zg _ _ _ _) (zq zt rfl B.len yc (za (pv 0) (@zb _))) (pv 1)))))) (@zh _ _ _ (@zm _ _ _ _ (@vz _ _ _ _))) (@ye _)) (@zh _ _ _ (@zm _ _ _ _ (@ou _ _ _ _ _ _ _ (zq (tj rfl) rfl B.all kj (za (yg ["one"] ["thing", "most"] rfl (@yk _ _ _ _ (pv 0)) (fun _=>(zn (i:=0) (show(["one", "thing", "most"]:List Str).Nodup by decide +kernel) rfl (Or.inl rfl))) (fun _=>(@z9 _)) (fun _=>(zi o9 (hr.mono (by decide)) rfl (za (pv 0) (@zb _)))) rfl (by decide +kernel) rfl rfl) (@zb _))) (@k7 _ _ _ _ _ (@ld _ _ _ _ _ _ _ _ pq (zij rfl rfl B.len rfl B.set (za (pv 0) (@zb _))) (zq zt rfl B.len yc (za (pv 0) (@zb _))) (yt _))))))),?_⟩;rw[show start ["thing", "most"] [V.ref l,V.int m]=[some (V.ref l),some (V.int m)] from rfl]
    (try dsimp only[xp,e_C,e_op,e_rI,xq,xt,x6,xx,x9,y4,e_B,x0,e_or,wb,x5,x8,y9,xw,y3,xz,xu,xy,yi,xr,y0,wc,xv,y7,e_CB,e_BM,y8,e_iL,wa,y6,cxK,noxK,xc,yz,yl]);(try simp only[zf,ze,↓reduceIte])
    refine⟨_,.lst hl,true,dh,iteF ⟨_,.inl (.of hl),?_⟩⟩;rw[Za];refine ite2 (fun _=>ite2 (fun h => ?_) fun _ => ?_) fun h=>(h (decide_eq_true (by omega))).elim
    . rw[decide_eq_true (show(zs.length:Int)<=m by omega)]at h
      cases h
    . refine⟨⟨_,.of hl⟩,fun d => ?_⟩
      refine yu (xs:=zs.map V.str) (PvAT H) ⟨Same.refl _,rfl⟩ ?_ ?_ ?_
      . rintro i ys H2 hi ⟨S,rfl⟩
        rw[Za]at hi;exact⟨by rw[kn];exact Zd hi (Zd (show zs.length<=8 by omega) (by decide)),S.seq (.of hl)⟩
      . rintro i x ys H2 hx ⟨S,rfl⟩
        obtain⟨y,hy,rfl⟩:=yp hx;simp only[zf,ze,↓reduceIte];exact⟨y,rfl,gG y (Zi hy),fun H3 S3=>⟨S.trans S3,nh i⟩⟩
      . rintro ys H2 ⟨S,rfl⟩ p hp
        have S2:Same H (upd H2 p (.lst ((allT (zs.map V.str).length).map V.bl))):=S.trans (Same.upd (Same.refl _) hp);refine⟨_,.of zd,?_⟩;rw[l6];generalize upd H2 p (.lst ((allT (zs.map V.str).length).map V.bl))=H3 at *;refine⟨zs,S2.seq (.of hl),by omega,_,.inl (S2.seq (.of hl)),rfl,?_⟩;rw[zfa gD _ (Zm _),Zt,Za,decide_eq_true rfl];exact q _ S2
theorem ki (B:Bt mg) (nv:FnAt P w K mg base "is_grid_row" 3 ["thing", "width"] qRow) (D:zc K mg "are_worths" qm ["thing", "height", "width"]):FnAt P w K mg base "are_worths" 4 ["thing", "height", "width"] zeq:=by
  refine FnAt.of D zbw (fun vs H Q E h => ?_) (fun f cdv A outer s H vs Q E hr h => ?_)
  . obtain⟨g,gs,rows,ht,n,rfl,_⟩:=h
    rfl
  . obtain⟨g,gs,rows,ht,n,rfl,hg,l1,l2,b1,b2,hrow,hG,q⟩:=h
    refine⟨_,(@zj _ _ _ _ _ (@xg _ _ _ _ _ _ _ _ (PW.pt (@jv _ _ _ _ _ _ _ (@vm _ _ _ _ (v6 (zq wn rfl B.isinstance xi (za (pv 0) (za (qd rfl B.list ll) (@zb _)))))) (@o0 _ _ _ _ (@yn _ _ _ _ _ _ _ _ db (zq zt rfl B.len yc (za (pv 0) (@zb _))) (pv 1) (yt _))))) (@zh _ _ _ (@zm _ _ _ _ (@vz _ _ _ _))) (@ye _)) (@zh _ _ _ (@zm _ _ _ _ (zq (tj rfl) rfl B.all kj (za (yg ["row"] ["thing", "height", "width"] rfl (@yk _ _ _ _ (pv 0)) (fun _=>(zn (i:=0) (show(["row", "thing", "height", "width"]:List Str).Nodup by decide +kernel) rfl (Or.inl rfl))) (fun _=>(@z9 _)) (fun _=>(zi nv (hr.mono (by decide)) rfl (za (pv 0) (za (pv 3) (@zb _))))) rfl (by decide +kernel) rfl rfl) (@zb _)))))),?_⟩;rw[show start ["thing", "height", "width"] [V.ref g,V.int ht,V.int n]=[some (V.ref g),some (V.int ht),some (V.int n)] from rfl]
    (try dsimp only[xp,e_C,e_op,e_rI,xq,xt,x6,xx,x9,y4,e_B,x0,e_or,wb,x5,x8,y9,xw,y3,xz,xu,xy,yi,xr,y0,wc,xv,y7,e_CB,e_BM,y8,e_iL,wa,y6,cxK,noxK,xc,yz,yl]);(try simp only[zf,ze,↓reduceIte])
    refine⟨_,.lst hg,true,dh,iteF ⟨_,.inl (.of hg),rfl,?_⟩⟩;rw[Za,l1];refine zf6 rfl ⟨⟨_,.of hg⟩,fun d => ?_⟩;refine yu (xs:=gs.map V.ref) (PvAT H) ⟨Same.refl _,rfl⟩ ?_ ?_ ?_
    . rintro i ys H2 hi ⟨S,rfl⟩
      rw[Za]at hi;exact⟨by rw[kn];exact Zd hi (Zd (show gs.length<=8 by omega) (by decide)),S.seq (.of hg)⟩
    . rintro i x ys H2 hx ⟨S,rfl⟩
      obtain⟨r,hr',rfl⟩:=yp hx;have hi:i<rows.length:=by have:=(Zc.mp hr').1;omega
      have e2:rows[i]? = some rows[i]:=by simp[hi]
      have hm:=hG rows[i] (Zl hi);simp only[zf,ze,↓reduceIte];exact⟨r,rows[i],n,rfl,S _ _ (hrow i r rows[i] hr' e2),hm.1,b2,hm.2,fun H3 S3=>⟨S.trans S3,nh i⟩⟩
    . rintro ys H2 ⟨S,rfl⟩ l hl
      refine⟨_,.of zd,?_⟩;rw[l6];exact q _ (S.trans (Same.upd (Same.refl _) hl))
theorem g8 (B:Bt mg) (o9:FnAt P w K mg base "is_name" 1 ["thing"] zhc) (uv:FnAt P w K mg base "are_names" 2 ["thing", "most"] zcw) (ki:FnAt P w K mg base "are_worths" 4 ["thing", "height", "width"] zeq) (D:zc K mg "is_hand" jk ["thing", "width"]):FnAt P w K mg base "is_hand" 5 ["thing", "width"] qHand:=by
  refine FnAt.of D zga (fun vs H Q E h => ?_) (fun f cdv A outer s H vs Q E hr h => ?_)
  . obtain⟨x,d,n,rfl,_⟩:=h
    rfl
  . obtain⟨x,d,n,rfl,hx,g,n8,q⟩:=h
    refine⟨_,(@zj _ _ _ _ _ (@xg _ _ _ _ _ _ _ _ (PW.pt (@jv _ _ _ _ _ _ _ (@vm _ _ _ _ (v6 (zq wn rfl B.isinstance xi (za (pv 0) (za (qd rfl B.tuple q8) (@zb _)))))) (@o0 _ _ _ _ (@yn _ _ _ _ _ _ _ _ db (zq zt rfl B.len yc (za (pv 0) (@zb _))) (@zg _ _ _ _) (yt _))))) (@zh _ _ _ (@zm _ _ _ _ (@vz _ _ _ _))) (@ye _)) (@zh _ _ _ (@zm _ _ _ _ (@ou _ _ _ _ _ _ _ (zi o9 (hr.mono (by decide)) rfl (za (@z0 _ _ _ _ _ _ _ yh (pv 0) (@zg _ _ _ _) (fun _ _=>rfl)) (@zb _))) (@ou _ _ _ _ _ _ _ (zi uv (hr.mono (by decide)) rfl (za (@z0 _ _ _ _ _ _ _ yh (pv 0) (@zg _ _ _ _) (fun _ _=>rfl)) (za (ka rfl B.k_MOST_WORDS) (@zb _)))) (@k7 _ _ _ _ _ (zi ki (hr.mono (by decide)) rfl (za (@z0 _ _ _ _ _ _ _ yh (pv 0) (@zg _ _ _ _) (fun _ _=>rfl)) (za (zq zt rfl B.len yc (za (@z0 _ _ _ _ _ _ _ yh (pv 0) (@zg _ _ _ _) (fun _ _=>rfl)) (@zb _))) (za (pv 1) (@zb _))))))))))),?_⟩;rw[show start ["thing", "width"] [V.ref x.t,V.int n]=[some (V.ref x.t),some (V.int n)] from rfl]
    (try dsimp only[xp,e_C,e_op,e_rI,xq,xt,x6,xx,x9,y4,e_B,x0,e_or,wb,x5,x8,y9,xw,y3,xz,xu,xy,yi,xr,y0,wc,xv,y7,e_CB,e_BM,y8,e_iL,wa,y6,cxK,noxK,xc,yz,yl]);(try simp only[zf,ze,↓reduceIte])
    refine⟨_,.tup hx.tup,true,zla,iteF ⟨_,.inr (.of hx.tup),rfl,zf6 rfl ?_⟩⟩;refine⟨_,.of hx.tup,_,zy (j:=0) rfl,d.name,rfl,g.name,fun H1 S1 => ?_⟩;have hx1:=hx.mono S1;refine⟨_,rfl,iteT ⟨_,.of hx1.tup,_,zy (j:=1) rfl,x.w,d.words,8,rfl,hx1.words,g.words.1,g.words.2,Zm _,g.wordsG,g.wordsD,fun H2 S2 => ?_⟩⟩;have hx2:=hx1.mono S2;refine⟨_,rfl,iteT ⟨_,.of hx2.tup,_,zy (j:=2) rfl,_,.of hx2.tup,_,zy (j:=1) rfl,x.w,rfl,_,.inl (.of hx2.words),?_⟩⟩;rw[Za];have hw:=g.words.2;have hr2:=g.rows;exact⟨x.g,x.gs,d.worths,d.words.length,n,rfl,hx2.grid,by rw[hx2.len];exact hr2,hr2,hw,n8,hx2.row,g.cols,fun H3 S3=>q H3 (S1.trans (S2.trans S3))⟩
theorem on (D:zc K mg "name_of" ja ["hand"]):FnAt P w K mg base "name_of" 1 ["hand"] (jj fun _ d=>.str d.name):=by
  refine FnAt.of D zgp (fun vs H Q E h => ?_) (fun f cdv A outer s H vs Q E hr h => ?_)
  . obtain⟨x,d,rfl,_⟩:=h
    rfl
  . obtain⟨x,d,rfl,hx,q⟩:=h
    refine⟨_,(@zh _ _ _ (@zm _ _ _ _ (@z0 _ _ _ _ _ _ _ yh (pv 0) (@zg _ _ _ _) (fun _ _=>rfl)))),?_⟩;rw[show start ["hand"] [V.ref x.t]=[some (V.ref x.t)] from rfl];simp only[zf,ze,↓reduceIte];exact⟨_,.of hx.tup,_,zy (j:=0) rfl,q⟩
theorem yr (D:zc K mg "words_of_hand" vx ["hand"]):FnAt P w K mg base "words_of_hand" 1 ["hand"] (jj fun x _=>.ref x.w):=by
  refine FnAt.of D km (fun vs H Q E h => ?_) (fun f cdv A outer s H vs Q E hr h => ?_)
  . obtain⟨x,d,rfl,_⟩:=h
    rfl
  . obtain⟨x,d,rfl,hx,q⟩:=h
    refine⟨_,(@zh _ _ _ (@zm _ _ _ _ (@z0 _ _ _ _ _ _ _ yh (pv 0) (@zg _ _ _ _) (fun _ _=>rfl)))),?_⟩;rw[show start ["hand"] [V.ref x.t]=[some (V.ref x.t)] from rfl];simp only[zf,ze,↓reduceIte];exact⟨_,.of hx.tup,_,zy (j:=1) rfl,q⟩
theorem wq (D:zc K mg "worths_of_hand" vn ["hand"]):FnAt P w K mg base "worths_of_hand" 1 ["hand"] (jj fun x _=>.ref x.g):=by
  refine FnAt.of D md (fun vs H Q E h => ?_) (fun f cdv A outer s H vs Q E hr h => ?_)
  . obtain⟨x,d,rfl,_⟩:=h
    rfl
  . obtain⟨x,d,rfl,hx,q⟩:=h
    refine⟨_,(@zh _ _ _ (@zm _ _ _ _ (@z0 _ _ _ _ _ _ _ yh (pv 0) (@zg _ _ _ _) (fun _ _=>rfl)))),?_⟩;rw[show start ["hand"] [V.ref x.t]=[some (V.ref x.t)] from rfl];simp only[zf,ze,↓reduceIte];exact⟨_,.of hx.tup,_,zy (j:=2) rfl,q⟩
theorem qh (B:Bt mg) (yr:FnAt P w K mg base "words_of_hand" 1 ["hand"] (jj fun x _=>.ref x.w)) (D:zc K mg "count_of_rows" u3 ["hands"]):FnAt P w K mg base "count_of_rows" 2 ["hands"] zjw:=by
  refine FnAt.of D sc_count_of_rows (fun vs H Q E h => ?_) (fun f cdv A outer s H vs Q E hr h => ?_)
  . obtain⟨b,xs,ds,rfl,_⟩:=h
    rfl
  . obtain⟨b,xs,ds,rfl,hh,h8,h4,q⟩:=h
    refine⟨_,(@zj _ _ _ _ _ (zw (i:=1) sc_count_of_rows.nd rfl (Or.inl rfl) (@zg _ _ _ _)) (@zj _ _ _ _ _ (we PassesOwn.never rfl (@yk _ _ _ _ (pv 0)) (zn (i:=2) sc_count_of_rows.nd rfl (Or.inl rfl)) (@zh _ _ _ (zw (i:=1) sc_count_of_rows.nd rfl (Or.inl rfl) (@zl _ _ _ _ _ _ _ _ qk (pv 1) (zq zt rfl B.len yc (za (zi yr (hr.mono (by decide)) rfl (za (pv 2) (@zb _))) (@zb _))))))) (@zh _ _ _ (@zm _ _ _ _ (pv 1))))),?_⟩;rw[show start ["hands", "count", "hand"] [V.ref b]=[some (V.ref b),none,none] from rfl];simp only[zf,ze,↓reduceIte];refine⟨⟨_,.of hh.at'⟩,?_⟩;refine uk (xs:=xs.map fun x=>V.ref x.t) (PvCt H b ds) ⟨rfl,_,rfl⟩ ?_ ?_ ?_
    . rintro i σ H4 hi ⟨rfl,v,rfl⟩
      exact .of hh.at'
    . rintro i x σ H4 hx ⟨rfl,v,rfl⟩
      obtain⟨y,hy,rfl⟩:=yp hx;have hi:i<ds.length:=by have:=(Zc.mp hy).1;have:=hh.len;omega
      have e2:ds[i]? = some ds[i]:=by simp[hi]
      have hd:=hh.hand i y ds[i] hy e2;have hw:=h8 ds[i] (Zl hi);simp only[zf,ze,↓reduceIte];refine⟨y,ds[i],rfl,hd,?_⟩;simp only[zf,ze,↓reduceIte];refine⟨_,.inl (.of hd.words),?_⟩;rw[Za];refine⟨.inr ⟨by omega,by omega⟩,rfl,some (V.ref y.t),?_⟩;rw[Zq,e2,Zn,List.prod_append];simp only[Option.toList,ZL,Xf,List.prod_cons,List.prod_nil,Nat.mul_one,Int.natCast_mul]
    . rintro σ H4 ⟨rfl,v,rfl⟩
      simp only[zf,ze,↓reduceIte];rw[Za,hh.len,Zt];exact q
def zcd:Sp:=fun vs H Q _=>∃(b:Addr) (xs:List HX) (ds:List HD),vs=[.ref b]/\HandsL H b xs ds/\ds.length<=4/\∀l,H l=none->Q (.ref l) (upd H l (.lst ((ds.map HD.name).map V.str)))
theorem i0 (on:FnAt P w K mg base "name_of" 1 ["hand"] (jj fun _ d=>.str d.name)) (D:zc K mg "names_of" m5 ["hands"]):FnAt P w K mg base "names_of" 2 ["hands"] zcd:=by
  refine FnAt.of D zej (fun vs H Q E h => ?_) (fun f cdv A outer s H vs Q E hr h => ?_)
  . obtain⟨b,xs,ds,rfl,_⟩:=h
    rfl
  . obtain⟨b,xs,ds,rfl,hh3,g4,q⟩:=h
    refine⟨_,(@zh _ _ _ (@zm _ _ _ _ (yg ["hand"] ["hands"] rfl (@yk _ _ _ _ (pv 0)) (fun _=>(zn (i:=0) (show(["hand", "hands"]:List Str).Nodup by decide +kernel) rfl (Or.inl rfl))) (fun _=>(@z9 _)) (fun _=>(zi on (hr.mono (by decide)) rfl (za (pv 0) (@zb _)))) rfl (by decide +kernel) rfl rfl))),?_⟩;rw[show start ["hands"] [V.ref b]=[some (V.ref b)] from rfl];simp only[zf,ze,↓reduceIte];refine⟨⟨_,.of hh3.at'⟩,fun d2 => ?_⟩;refine yu (xs:=xs.map fun x=>V.ref x.t) (PvNm H ds) ⟨rfl,rfl⟩ ?_ ?_ ?_
    . rintro i ys H4 hi ⟨rfl,rfl⟩
      refine⟨?_,.of hh3.at'⟩;rw[Za,Za,Zj];exact Zd (ZB _ _) (Zd g4 (by decide))
    . rintro i x ys H4 hx ⟨rfl,rfl⟩
      obtain⟨y,hy,rfl⟩:=yp hx;have hi:i<ds.length:=by have:=(Zc.mp hy).1;have:=hh3.len;omega
      have e2:ds[i]? = some ds[i]:=by simp[hi]
      simp only[zf,ze,↓reduceIte];refine⟨y,ds[i],rfl,hh3.hand i y ds[i] hy e2,rfl,?_⟩;rw[Zq,e2,Zn,Zn];rfl
    . rintro ys H4 ⟨rfl,rfl⟩ l hl
      rw[Za,hh3.len,Zt];exact q l hl
theorem nq (B:Bt mg) (uv:FnAt P w K mg base "are_names" 2 ["thing", "most"] zcw) (g8:FnAt P w K mg base "is_hand" 5 ["thing", "width"] qHand) (i0:FnAt P w K mg base "names_of" 2 ["hands"] zcd) (qh:FnAt P w K mg base "count_of_rows" 2 ["hands"] zjw)
    (D:zc K mg "makes_house" su ["outcomes", "hands"]):FnAt P w K mg base "makes_house" 6 ["outcomes", "hands"] zh4:=by
  refine FnAt.of D zar (fun vs H Q E h => ?_) (fun f cdv A outer s H vs Q E hr h => ?_)
  . obtain⟨o,b,outs,xs,ds,rfl,_⟩:=h
    rfl
  . obtain⟨o,b,outs,xs,ds,rfl,ho,hh,g,q⟩:=h
    refine⟨_,(@zj _ _ _ _ _ (@xg _ _ _ _ _ _ _ _ (PW.pt (@jv _ _ _ _ _ _ _ (@vm _ _ _ _ (v6 (zi uv (hr.mono (by decide)) rfl (za (pv 0) (za (ka rfl B.k_MOST_OUTCOMES) (@zb _)))))) (@o0 _ _ _ _ (@vm _ _ _ _ (v6 (zq wn rfl B.isinstance xi (za (pv 1) (za (qd rfl B.list ll) (@zb _))))))))) (@zh _ _ _ (@zm _ _ _ _ (@vz _ _ _ _))) (@ye _)) (@zj _ _ _ _ _ (@xg _ _ _ _ _ _ _ _ (@vm _ _ _ _ (v6 (zq (tj rfl) rfl B.all kj (za (yg ["hand"] ["outcomes", "hands"] rfl (@yk _ _ _ _ (pv 1)) (fun _=>(zn (i:=0) (show(["hand", "outcomes", "hands"]:List Str).Nodup by decide +kernel) rfl (Or.inl rfl))) (fun _=>(@z9 _)) (fun _=>(zi g8 (hr.mono (by decide)) rfl (za (pv 0) (za (zq zt rfl B.len yc (za (pv 1) (@zb _))) (@zb _))))) rfl (by decide +kernel) rfl rfl) (@zb _))))) (@zh _ _ _ (@zm _ _ _ _ (@vz _ _ _ _))) (@ye _)) (@zh _ _ _ (@zm _ _ _ _ (@ou _ _ _ _ _ _ _ (zi uv (hr.mono (by decide)) rfl (za (zi i0 (hr.mono (by decide)) rfl (za (pv 1) (@zb _))) (za (ka rfl B.k_MOST_HANDS) (@zb _)))) (@k7 _ _ _ _ _ (@ld _ _ _ _ _ _ _ _ aa (zi qh (hr.mono (by decide)) rfl (za (pv 1) (@zb _))) (ka rfl B.k_MOST_ROWS) (yt _)))))))),?_⟩;rw[show start ["outcomes", "hands"] [V.ref o,V.ref b]=[some (V.ref o),some (V.ref b)] from rfl]
    (try dsimp only[xp,e_C,e_op,e_rI,xq,xt,x6,xx,x9,y4,e_B,x0,e_or,wb,x5,x8,y9,xw,y3,xz,xu,xy,yi,xr,y0,wc,xv,y7,e_CB,e_BM,y8,e_iL,wa,y6,cxK,noxK,xc,yz,yl]);(try simp only[zf,ze,↓reduceIte])
    have g1:=g.outs1;have g2:=g.hands;refine⟨o,outs,8,rfl,ho,g1.1,g1.2,Zm _,g.outsG,g.outsD,fun H1 S1 => ?_⟩;simp only[zf,ze,↓reduceIte];have hh1:=hh.mono S1;have ho1:=S1 _ _ ho;refine iteF ⟨_,.lst hh1.at',true,dh,iteF ⟨⟨_,.of hh1.at'⟩,fun d => ?_⟩⟩;refine yu (xs:=xs.map fun x=>V.ref x.t) (PvAT H1) ⟨Same.refl _,rfl⟩ ?_ ?_ ?_
    . rintro i ys H2 hi ⟨S,rfl⟩
      rw[Za,hh.len]at hi;exact⟨by rw[kn];exact Zd hi (Zd g2.2 (by decide)),S.seq (.of hh1.at')⟩
    . rintro i x ys H2 hx ⟨S,rfl⟩
      obtain⟨y,hy,rfl⟩:=yp hx;have hi:i<ds.length:=by have:=(Zc.mp hy).1;have:=hh.len;omega
      have e2:ds[i]? = some ds[i]:=by simp[hi]
      simp only[zf,ze,↓reduceIte];refine⟨_,.inl (S.seq (.of ho1)),?_⟩;rw[Za];exact⟨y,ds[i],outs.length,rfl,(hh1.hand i y ds[i] hy e2).mono S,g.hand (Zl hi),g1.2,fun H3 S3=>⟨S.trans S3,nh i⟩⟩
    . rintro ys H2 ⟨S,rfl⟩ p hp
      have S2:Same H1 (upd H2 p (.lst ((allT (xs.map fun x=>V.ref x.t).length).map V.bl))):=S.trans (Same.upd (Same.refl _) hp);refine⟨_,.of zd,?_⟩;rw[l6];generalize upd H2 p (.lst ((allT (xs.map fun x=>V.ref x.t).length).map V.bl))=H3 at *;have hh3:=hh1.mono S2;refine iteF ⟨b,xs,ds,rfl,hh3,g2.2,fun l hl => ?_⟩;have S5:Same H3 (upd H3 l (.lst ((ds.map HD.name).map V.str))):=Same.upd (Same.refl _) hl;refine⟨l,ds.map HD.name,4,rfl,zd,by rw[Za];exact g2.1,by rw[Za];exact g2.2,by decide,fun z hz => ?_,g.handsD,fun H6 S6 => ?_⟩
      . obtain⟨d,hd,rfl⟩:=Zp.mp hz
        exact g.handsG d hd
      . generalize upd H3 l (.lst ((ds.map HD.name).map V.str))=H5 at *
        have S36:=S5.trans S6;have few:=g.few;refine⟨_,rfl,iteT ⟨b,xs,ds,rfl,hh3.mono S36,fun d hd=>(g.words1 d hd).2,g2.2,_,rfl,?_⟩⟩;rw[decide_eq_true (by omega)];exact q _ (S1.trans (S2.trans S36))
end
section
variable{α:Type}
def vj(r:List α)(ws:List α):List (List α):=ws.map fun w=>r++[w]
def va(rs:List (List α))(ws:List α):List (List α):=(rs.map fun r=>vj r ws).flatten
def zz(wss:List (List α)):List (List α):=wss.foldl va [[]]
theorem zgt(wss:List (List α))(ws:List α):zz (wss++[ws])=va (zz wss) ws:=by simp[zz]
theorem ai(r:List α)(rs:List (List α))(ws:List α):va (r::rs) ws=vj r ws++va rs ws:=by simp[va]
theorem ad(rs:List (List α))(r:List α)(ws:List α):va (rs++[r]) ws=va rs ws++vj r ws:=by simp[va]
theorem se(r:List α)(ws:List α):(vj r ws).length=ws.length:=by simp[vj]
theorem na(ws:List α):∀rs:List (List α),(va rs ws).length=rs.length*ws.length
  | []=>by simp[va]
  | r::rs=>by rw[ai,Zo,se,na ws rs,ZM,Nat.succ_mul,Nat.add_comm]
theorem ui{wss:List (List α)}{j:Nat}{ws:List α}(h:wss[j]? = some ws):zz (wss.take (j+1))=va (zz (wss.take j)) ws:=by
  rw[Zq,h];exact zgt _ _
theorem zia(wss:List (List α)):(zz wss).length=(wss.map List.length).prod:=by
  have:∀n,n<=wss.length->(zz (wss.take n)).length=((wss.take n).map List.length).prod:=by
    intro n
    induction n with
    | zero=>intro _;rfl
    | succ n ih =>
      intro h;have e:wss[n]? = some wss[n]:=Zb (by omega);rw[ui e,na,ih (by omega),Zq,e,Zn,List.prod_append];simp
  have:=this wss.length (Zm _)
  rwa [Zt]at this
theorem fq{rs:List (List α)}{ws:List α}{row:List α}(h:row∈va rs ws):∃r w,r∈rs/\w∈ws/\row=r++[w]:=by
  simp only[va,vj,YS,Zp]at h;obtain⟨l,⟨r,hr,rfl⟩,h⟩:=h;obtain⟨w,hw,rfl⟩:=Zp.mp h;exact⟨r,w,hr,hw,rfl⟩
theorem ca(wss:List (List α)):∀n,n<=wss.length->∀row∈zz (wss.take n),row.length=n:=by
  intro n
  induction n with
  | zero=>intro _ row h;simp[zz]at h;simp[h]
  | succ n ih =>
    intro h row hr;have e:wss[n]? = some wss[n]:=Zb (by omega);rw[ui e]at hr;obtain⟨r,w,h1,_,rfl⟩:=fq hr;simp[ih (by omega) r h1]
end
structure TupsAt(H:Hp)(as:List Addr)(rs:List (List Str)):Prop where
  len:as.length=rs.length
  at':∀(i:Nat) (a:Addr) (r:List Str),as[i]? = some a->rs[i]? = some r->H a=some (.tup (r.map V.str))
theorem TupsAt.nil{H:Hp}:TupsAt H [] []:=⟨rfl,fun i a r e=>by simp at e⟩
theorem TupsAt.mono{H H':Hp}{as:List Addr}{rs:List (List Str)}(S:Same H H')(h:TupsAt H as rs):TupsAt H' as rs:=⟨h.len,fun i a r e1 e2=>S _ _ (h.at' i a r e1 e2)⟩
theorem TupsAt.append{H:Hp}{as bs:List Addr}{rs qs:List (List Str)}(h1:TupsAt H as rs)(h2:TupsAt H bs qs):TupsAt H (as++bs) (rs++qs):=by
  refine⟨by simp[h1.len,h2.len],fun i a r e1 e2 => ?_⟩
  by_cases hi:i<as.length
  . rw[Zg hi]at e1
    rw[Zg (by rw[<-h1.len];exact hi)]at e2;exact h1.at' i a r e1 e2
  . rw[Zf (ZD.mp hi)]at e1
    rw[Zf (by rw[<-h1.len];exact ZD.mp hi)]at e2;rw[h1.len]at e1;exact h2.at' _ a r e1 e2
theorem TupsAt.one{H:Hp}{a:Addr}{r:List Str}(h:H a=some (.tup (r.map V.str))):TupsAt H [a] [r]:=⟨rfl,fun i b q e1 e2=>by
  cases i with
  | zero =>
    simp at e1 e2;subst e1 e2;exact h
  | succ i=>simp at e1⟩
theorem TupsAt.past{H:Hp}{p:Addr}{xs ys:List V}{as:List Addr}{rs:List (List Str)}(hp:H p=some (.lst xs))(h:TupsAt H as rs):TupsAt (upd H p (.lst ys)) as rs :=
  ⟨h.len,fun i a r e1 e2=>by
    have:=h.at' i a r e1 e2;rw[zp (fun e=>by rw[e,hp]at this;cases this)]
    exact this⟩
structure RwsAt(H:Hp)(l:Addr)(as:List Addr)(rs:List (List Str)):Prop where
  lst:H l=some (.lst (as.map V.ref))
  tups:TupsAt H as rs
theorem RwsAt.mono{H H':Hp}{l:Addr}{as:List Addr}{rs:List (List Str)}(S:Same H H')(h:RwsAt H l as rs):RwsAt H' l as rs:=⟨S _ _ h.lst,h.tups.mono S⟩
structure KHand(K:Fg)(H:Hp)(t:Addr)(d:HD)(w g:Addr)(gs:List Addr):Prop where
  tup:SqT K H t [.str d.name,.ref w,.ref g]
  words:SqT K H w (d.words.map V.str)
  grid:SqT K H g (gs.map V.ref)
  len:gs.length=d.worths.length
  row:∀(i:Nat) (r:Addr) (ns:List Int),gs[i]? = some r->d.worths[i]? = some ns->SqT K H r (ns.map V.int)
def KHands(K:Fg)(H:Hp)(hs:List Addr)(ds:List HD):Prop:=hs.length=ds.length/\∀(i:Nat) (t:Addr) (d:HD),hs[i]? = some t->ds[i]? = some d->∃w g gs,KHand K H t d w g gs
structure zcb(K:Fg)(H:Hp)(p o h:Addr)(hs:List Addr)(outs:List Str)(ds:List HD):Prop where
  tup:SqT K H p [.ref o,.ref h]
  outs:SqT K H o (outs.map V.str)
  hands:SqT K H h (hs.map V.ref)
  hand:KHands K H hs ds
theorem KHand.mono{K:Fg}{H H':Hp}{t:Addr}{d:HD}{w g:Addr}{gs:List Addr}(S:Same H H')(h:KHand K H t d w g gs):KHand K H' t d w g gs :=
  ⟨S.seqT h.tup,S.seqT h.words,S.seqT h.grid,h.len,fun i r ns e1 e2=>S.seqT (h.row i r ns e1 e2)⟩
theorem KHands.mono{K:Fg}{H H':Hp}{hs:List Addr}{ds:List HD}(S:Same H H')(h:KHands K H hs ds):KHands K H' hs ds :=
  ⟨h.1,fun i t d e1 e2=>by
    obtain⟨w,g,gs,q⟩:=h.2 i t d e1 e2
    exact⟨w,g,gs,q.mono S⟩⟩
def wz(K:Fg)(j:Nat):Sp:=fun vs H Q _=>∃(t:Addr) (us:List V) (v:V),vs=[.ref t]/\SqT K H t us/\us[j]? = some v/\Q v H
def zii(K:Fg):Sp:=fun vs H Q _=>∃(l wd:Addr) (as:List Addr) (rs:List (List Str)) (ws:List Str),vs=[.ref l,.ref wd]/\RwsAt H l as rs/\SqT K H wd (ws.map V.str)/\rs.length<=4096/\ws.length<=8/\(∀r∈rs,r.length<=8) /\
  ∀H' l' as',Same H H'->H l'=none->RwsAt H' l' as' (va rs ws)->Q (.ref l') H'
def PvEach(l wd p:Addr)(rs:List (List Str))(ws:List Str)(H:Hp)(i:Nat)(σ:L2.St)(H':Hp):Prop:=∃(as':List Addr) (v:Option V),H' p=some (.lst (as'.map V.ref))/\TupsAt H' as' (va (rs.take i) ws)/\Same H H'/\σ=[some (.ref l),some (.ref wd),some (.ref p),v]
def zju(r ws:List Str)(H:Hp)(i:Nat)(ys:List V)(H':Hp):Prop:=∃as':List Addr,ys=as'.map V.ref/\TupsAt H' as' (vj r (ws.take i))/\Same H H'
def zde(K:Fg):Sp:=fun vs H Q _=>∃(h:Addr) (hs:List Addr) (ds:List HD),vs=[.ref h]/\SqT K H h (hs.map V.ref)/\KHands K H hs ds/\ds.length<=4/\(∀d∈ds,d.words.length<=8) /\
  ∀H' l as,Same H H'->H l=none->RwsAt H' l as (zz (ds.map HD.words))->Q (.ref l) H'
def PvOver(h:Addr)(ds:List HD)(H:Hp)(i:Nat)(σ:L2.St)(H':Hp):Prop:=∃(l:Addr) (as:List Addr) (v:Option V),H l=none/\RwsAt H' l as (zz ((ds.map HD.words).take i))/\Same H H'/\σ=[some (.ref h),some (.ref l),v]
def zdo(K:Fg):Sp:=fun vs H Q _=>∃(p o h:Addr) (hs:List Addr) (outs:List Str) (ds:List HD),vs=[.ref p]/\zcb K H p o h hs outs ds/\ds.length<=4/\(∀d∈ds,d.words.length<=8) /\
  ∀H' l as,Same H H'->H l=none->RwsAt H' l as (zz (ds.map HD.words))->Q (.ref l) H'
def fj(K:Fg):Sp:=fun vs H Q _=>∃(p:Addr) (xs:List V) (k:Nat),vs=[.ref p,.int k]/\SqT K H p xs/\k<xs.length/\xs.length<=64/\∀H' p',Same H H'->H' p'=some (.tup (xs.eraseIdx k))->Q (.ref p') H'
def mh(K:Fg):Sp:=fun vs H Q _=>∃(p o h:Addr) (hs:List Addr) (outs:List Str) (ds:List HD) (k:Nat),vs=[.ref p,.int k]/\zcb K H p o h hs outs ds/\k<ds.length/\ds.length<=4/\(∀d∈ds,d.words.length<=8) /\
  ∀H' l as,Same H H'->H l=none->RwsAt H' l as (zz ((ds.eraseIdx k).map HD.words))->Q (.ref l) H'
theorem ug{wss:List (List Str)}(h4:wss.length<=4)(h8:∀ws∈wss,ws.length<=8)(n:Nat)(hn:n<=wss.length):(zz (wss.take n)).length<=4096:=by
  have:∀m,m<=wss.length->(zz (wss.take m)).length<=8^m:=by
    intro m
    induction m with
    | zero=>intro _;exact Zm _
    | succ m ih =>
      intro h;have e:wss[m]? = some wss[m]:=Zb (by omega);rw[ui e,na,Nat.pow_succ];exact YK (ih (by omega)) (h8 _ (Zl (by omega)))
  exact Zd (this n hn) (Nat.pow_le_pow_right (by decide) (show n<=4 by omega))
section
variable{P:Program}{w:World}{K:Fg}{mg:Str->Option Value}{base:Heap}
theorem zf3 (D:zc K mg "hands_of" my ["house"]):FnAt P w K mg base "hands_of" 1 ["house"] (wz K 1):=by
  refine FnAt.of D zdx (fun vs H Q E h => ?_) (fun f cdv A outer s H vs Q E hr h => ?_)
  . obtain⟨t,us,v,rfl,_⟩:=h
    rfl
  . obtain⟨t,us,v,rfl,ht,e,q⟩:=h
    refine⟨_,(@zh _ _ _ (@zm _ _ _ _ (@z0 _ _ _ _ _ _ _ yh (pv 0) (@zg _ _ _ _) (fun _ _=>rfl)))),?_⟩;rw[show start ["house"] [V.ref t]=[some (V.ref t)] from rfl];simp only[zf,ze,↓reduceIte];exact⟨_,ht,_,zy (j:=1) e,q⟩
theorem aq (D:zc K mg "words_of_hand" vx ["hand"]):FnAt P w K mg base "words_of_hand" 1 ["hand"] (wz K 1):=by
  refine FnAt.of D km (fun vs H Q E h => ?_) (fun f cdv A outer s H vs Q E hr h => ?_)
  . obtain⟨t,us,v,rfl,_⟩:=h
    rfl
  . obtain⟨t,us,v,rfl,ht,e,q⟩:=h
    refine⟨_,(@zh _ _ _ (@zm _ _ _ _ (@z0 _ _ _ _ _ _ _ yh (pv 0) (@zg _ _ _ _) (fun _ _=>rfl)))),?_⟩;rw[show start ["hand"] [V.ref t]=[some (V.ref t)] from rfl];simp only[zf,ze,↓reduceIte];exact⟨_,ht,_,zy (j:=1) e,q⟩
theorem jx (B:Bt mg) (D:zc K mg "with_each" px ["rows", "words"]):FnAt P w K mg base "with_each" 1 ["rows", "words"] (zii K):=by
  refine FnAt.of D sc_with_each (fun vs H Q E h => ?_) (fun f cdv A outer s H vs Q E hr h => ?_)
  . obtain⟨l,wd,as,rs,ws,rfl,_⟩:=h
    rfl
  . obtain⟨l,wd,as,rs,ws,rfl,hR,hW,b1,b2,b3,q⟩:=h
    refine⟨_,(@zj _ _ _ _ _ (zw (i:=2) sc_with_each.nd rfl (Or.inl rfl) (@w9 _ _ _ _ (@zb _))) (@zj _ _ _ _ _ (we PassesOwn.never rfl (@yk _ _ _ _ (pv 0)) (zn (i:=3) sc_with_each.nd rfl (Or.inr rfl)) (@zh _ _ _ (rh (qo PySem.F.plainAttrs_list PySem.F.slot_list_extend PySem.F.type_list_extend za4 (pv 2) (za (yg ["word"] ["rows", "words", "longer", "row"] rfl (@zab _ _ _ _ (pv 1)) (fun _=>(zn (i:=0) (show(["word", "rows", "words", "longer", "row"]:List Str).Nodup by decide +kernel) rfl (Or.inl rfl))) (fun _=>(@z9 _)) (fun _=>(@zl _ _ _ _ _ _ _ _ m7 (pv 4) (@wg _ _ _ _ _ (za (pv 0) (@zb _))))) rfl (by decide +kernel) rfl rfl) (@zb _)))))) (@zh _ _ _ (@zm _ _ _ _ (pv 2))))),?_⟩;rw[show start ["rows", "words", "longer", "row"] [V.ref l,V.ref wd]=[some (V.ref l),some (V.ref wd),none,none] from rfl];simp only[zf,ze,↓reduceIte];refine⟨by decide,fun p hp => ?_⟩;have S1:Same H (upd H p (.lst [])):=Same.upd (Same.refl _) hp;refine⟨⟨_,.of (S1 _ _ hR.lst)⟩,?_⟩;refine uk (xs:=as.map V.ref) (PvEach l wd p rs ws H) ⟨[],_,zd,TupsAt.nil,S1,rfl⟩ ?_ ?_ ?_
    . rintro i σ H' hi ⟨as',v,h1,h2,S,rfl⟩
      exact .of (S _ _ hR.lst)
    . rintro i x σ H' hx ⟨as',v,h1,h2,S,rfl⟩
      obtain⟨a,ha,rfl⟩:=yp hx;have hi:i<rs.length:=by have:=(Zc.mp ha).1;have:=hR.tups.len;omega
      have er:rs[i]? = some rs[i]:=Zb hi;have hrow:=hR.tups.at' i a _ ha er;have hr8:=b3 _ (Zl hi);simp only[zf,ze,↓reduceIte];refine⟨.inl ⟨rfl,_,.of h1⟩,⟨_,S.seqT hW⟩,fun d => ?_⟩;refine cx (xs:=ws.map V.str) (zju rs[i] ws H') ⟨[],rfl,TupsAt.nil,Same.refl _⟩ ?_ ?_ ?_
      . rintro j ys H2 hj ⟨bs,rfl,t2,S2⟩
        refine⟨?_,S2.seqT (S.seqT hW)⟩;rw[Za,t2.len,se,Zj];exact Zd (ZB _ _) (Zd b2 (by decide))
      . rintro j y ys H2 hy ⟨bs,rfl,t2,S2⟩
        obtain⟨z,hz,rfl⟩:=yp hy;simp only[zf,ze,↓reduceIte];refine⟨by decide,fun c hc => ?_⟩;have S3:Same H2 (upd H2 c (.tup [V.str z])):=Same.upd (Same.refl _) hc;refine⟨_,(S.trans (S2.trans S3)) _ _ hrow,_,zd,?_,fun H4 e S4 he => ?_⟩
        . rw[Za]
          exact Zd (show _<=9 by simp;omega) (by decide)
        . refine⟨bs++[e],by simp,?_,S2.trans (S3.trans S4)⟩
          rw[Zq,hz]
          show TupsAt H4 (bs++[e]) (vj _ (ws.take j++[z]))
          rw[vj,Zn];exact(t2.mono (S3.trans S4)).append (TupsAt.one (by rw[he];simp))
      . rintro ys H2 ⟨bs,rfl,t2,S2⟩ l2 hl2
        rw[Za,Zt]at t2;have S3:Same H2 (upd H2 l2 (.lst (bs.map V.ref))):=Same.upd (Same.refl _) hl2;have h3:upd H2 l2 (.lst (bs.map V.ref)) l2=some (.lst (bs.map V.ref)):=zd;generalize upd H2 l2 (.lst (bs.map V.ref))=H3 at *;have hp3:=(S2.trans S3) _ _ h1;refine⟨_,hp3,_,h3,?_,?_⟩
        . rw[Za,Za,h2.len,t2.len,se,na,Zj]
          have:min i rs.length*ws.length<=4096*8:=YK (by omega) b2;exact Zd (show _<=4096*8+8 by omega) (by decide)
        . refine⟨as'++bs,_,by rw[zd,Zn],?_,Same.upd (S.trans (S2.trans S3)) hp,rfl⟩
          rw[Zq,er]
          show TupsAt _ _ (va (rs.take i++[rs[i]]) ws)
          rw[ad];exact((h2.mono (S2.trans S3)).append (t2.mono S3)).past hp3
    . rintro σ H' ⟨as',v,h1,h2,S,rfl⟩
      simp only[zf,ze,↓reduceIte];rw[Za,hR.tups.len,Zt]at h2;exact q H' p as' S hp ⟨h1,h2⟩
theorem sj (B:Bt mg) (jx:FnAt P w K mg base "with_each" 1 ["rows", "words"] (zii K)) (yr:FnAt P w K mg base "words_of_hand" 1 ["hand"] (wz K 1)) (D:zc K mg "rows_over" pw ["hands"]):FnAt P w K mg base "rows_over" 2 ["hands"] (zde K):=by
  refine FnAt.of D sc_rows_over (fun vs H Q E h => ?_) (fun f cdv A outer s H vs Q E hr h => ?_)
  . obtain⟨b,hs,ds,rfl,_⟩:=h
    rfl
  . obtain⟨b,hs,ds,rfl,hH,hK,h4,h8,q⟩:=h
    refine⟨_,(@zj _ _ _ _ _ (@zw _ _ 1 _ _ _ _ sc_rows_over.nd rfl (Or.inl rfl) (@w9 _ _ _ _ (@za _ _ _ _ _ (@wg _ _ _ _ _ (@zb _)) (@zb _) (yd nofun))) rfl (Or.inl rfl)) (@zj _ _ _ _ _ (we PassesOwn.never rfl (@zab _ _ _ _ (pv 0)) (zn (i:=2) sc_rows_over.nd rfl (Or.inl rfl)) (@zh _ _ _ (zw (i:=1) sc_rows_over.nd rfl (Or.inl rfl) (zi jx (hr.mono (by decide)) rfl (za (pv 1) (za (zi yr (hr.mono (by decide)) rfl (za (pv 2) (@zb _))) (@zb _))))))) (@zh _ _ _ (@zm _ _ _ _ (pv 1))))),?_⟩;rw[show start ["hands", "rows", "hand"] [V.ref b]=[some (V.ref b),none,none] from rfl];simp only[zf,ze,↓reduceIte];refine⟨by decide,fun c hc=>⟨by decide,fun p hp => ?_⟩⟩;have S1:Same H (upd H c (.tup [])):=Same.upd (Same.refl _) hc;have h1:upd H c (.tup []) c=some (.tup []):=zd;generalize upd H c (.tup [])=H1 at *;have S2:Same H1 (upd H1 p (.lst [V.ref c])):=Same.upd (Same.refl _) hp;have h2:upd H1 p (.lst [V.ref c]) p=some (.lst [V.ref c]):=zd;generalize upd H1 p (.lst [V.ref c])=H2 at *;have S:=S1.trans S2;refine⟨⟨_,S.seqT hH⟩,?_⟩;refine zlp (xs:=hs.map V.ref) (PvOver b ds H) ⟨p,[c],_,S1.free hp,⟨h2,TupsAt.one (S2 _ _ h1)⟩,S,rfl⟩ ?_ ?_ ?_
    . rintro i σ H' hi ⟨l,as,v,hl,hR,S',rfl⟩
      exact S'.seqT hH
    . rintro i x σ H' hx ⟨l,as,v,hl,hR,S',rfl⟩
      obtain⟨t,ht,rfl⟩:=yp hx;have hi:i<ds.length:=by have:=(Zc.mp ht).1;have:=hK.1;omega
      have ed:ds[i]? = some ds[i]:=Zb hi;obtain⟨wd,g,gs,hd⟩:=(hK.mono S').2 i t _ ht ed;simp only[zf,ze,↓reduceIte];refine⟨t,_,_,rfl,hd.tup,rfl,?_⟩;have ew:(ds.map HD.words)[i]? = some ds[i].words:=by rw[Ze,ed];rfl
      have hb:∀r∈zz ((ds.map HD.words).take i),r.length<=8:=fun r hr=>by
        have:=ca (ds.map HD.words) i (by rw[Za];omega) r hr;omega
      refine⟨l,wd,as,_,ds[i].words,rfl,hR,hd.words,ug (by rw[Za];exact h4) (fun ws hws => ?_) i (by rw[Za];omega),h8 _ (Zl hi),hb,fun H3 l3 as3 S3 hl3 R3 => ?_⟩
      . obtain⟨d,hd,rfl⟩:=Zp.mp hws
        exact h8 d hd
      . simp only[zf,ze,↓reduceIte]
        refine⟨l3,as3,_,S'.free hl3,?_,S'.trans S3,rfl⟩;rw[ui ew];exact R3
    . rintro σ H' ⟨l,as,v,hl,hR,S',rfl⟩
      simp only[zf,ze,↓reduceIte];rw[Za,hK.1,ZG (by rw[Za];omega)]at hR;exact q H' l as S' hl hR
theorem fu (B:Bt mg) (sj:FnAt P w K mg base "rows_over" 2 ["hands"] (zde K)) (f_hands_of:FnAt P w K mg base "hands_of" 1 ["house"] (wz K 1)) (D:zc K mg "rows_of" ji ["house"]):FnAt P w K mg base "rows_of" 3 ["house"] (zdo K):=by
  refine FnAt.of D zgs (fun vs H Q E h => ?_) (fun f cdv A outer s H vs Q E hr h => ?_)
  . obtain⟨p,o,a,hs,outs,ds,rfl,_⟩:=h
    rfl
  . obtain⟨p,o,a,hs,outs,ds,rfl,hH,h4,h8,q⟩:=h
    refine⟨_,(@zh _ _ _ (@zm _ _ _ _ (zi sj (hr.mono (by decide)) rfl (za (zi f_hands_of (hr.mono (by decide)) rfl (za (pv 0) (@zb _))) (@zb _))))),?_⟩;rw[show start ["house"] [V.ref p]=[some (V.ref p)] from rfl];simp only[zf,ze,↓reduceIte];exact⟨p,_,_,rfl,hH.tup,rfl,a,hs,ds,rfl,hH.hands,hH.hand,h4,h8,q⟩
theorem oz (B:Bt mg) (D:zc K mg "without" jf ["things", "k"]):FnAt P w K mg base "without" 1 ["things", "k"] (fj K):=by
  refine FnAt.of D zgw (fun vs H Q E h => ?_) (fun f cdv A outer s H vs Q E hr h => ?_)
  . obtain⟨p,xs,k,rfl,_⟩:=h
    rfl
  . obtain⟨p,xs,k,rfl,hp,hk,h64,q⟩:=h
    refine⟨_,(@zh _ _ _ (@zm _ _ _ _ (@zl _ _ _ _ _ _ _ _ m7 (@re _ _ _ _ _ _ _ _ _ _ zcx (pv 0) (@qz _) (@tm _ _ _ (pv 1))) (@re _ _ _ _ _ _ _ _ _ _ zcx (pv 0) (@tm _ _ _ (@zl _ _ _ _ _ _ _ _ yo (pv 1) (@zg _ _ _ _))) (@qz _))))),?_⟩;rw[show start ["things", "k"] [V.ref p,V.int k]=[some (V.ref p),some (V.int k)] from rfl];simp only[zf,ze,↓reduceIte];refine⟨_,hp,?_,fun c hc => ?_⟩
    . rw[HT.sIx_nat]
      omega
    . rw[dm (YI hk)]
      have S1:Same H (upd H c (.tup (xs.take k))):=Same.upd (Same.refl _) hc;have h1:upd H c (.tup (xs.take k)) c=some (.tup (xs.take k)):=zd;generalize upd H c (.tup (xs.take k))=H1 at *;refine⟨_,S1.seqT hp,?_,fun e he => ?_⟩
      . rw[show(k:Int)+1=((k+1:Nat):Int) by omega,HT.sIx_nat]
        omega
      . rw[show(k:Int)+1=((k+1:Nat):Int) by omega,jn hk]
        have S2:Same H1 (upd H1 e (.tup (xs.drop (k+1)))):=Same.upd (Same.refl _) he;refine⟨_,S2 _ _ h1,_,zd,?_,fun H3 r S3 hr => ?_⟩
        . rw[Zj,Yc]
          exact Zd (show _<=64 by omega) (by decide)
        . refine q H3 r (S1.trans (S2.trans S3)) ?_
          rw[hr,ZX]
theorem v8 (B:Bt mg) (sj:FnAt P w K mg base "rows_over" 2 ["hands"] (zde K)) (f_hands_of:FnAt P w K mg base "hands_of" 1 ["house"] (wz K 1)) (oz:FnAt P w K mg base "without" 1 ["things", "k"] (fj K)) (D:zc K mg "others_of" oh ["house", "k"]):FnAt P w K mg base "others_of" 3 ["house", "k"] (mh K):=by
  refine FnAt.of D zcs (fun vs H Q E h => ?_) (fun f cdv A outer s H vs Q E hr h => ?_)
  . obtain⟨p,o,a,hs,outs,ds,k,rfl,_⟩:=h
    rfl
  . obtain⟨p,o,a,hs,outs,ds,k,rfl,hH,hk,h4,h8,q⟩:=h
    refine⟨_,(@zh _ _ _ (@zm _ _ _ _ (zi sj (hr.mono (by decide)) rfl (za (zi oz (hr.mono (by decide)) rfl (za (zi f_hands_of (hr.mono (by decide)) rfl (za (pv 0) (@zb _))) (za (pv 1) (@zb _)))) (@zb _))))),?_⟩;rw[show start ["house", "k"] [V.ref p,V.int k]=[some (V.ref p),some (V.int k)] from rfl];simp only[zf,ze,↓reduceIte];have hl:=hH.hand.1;refine⟨p,_,_,rfl,hH.tup,rfl,a,_,k,rfl,hH.hands,by rw[Za];omega,by rw[Za];omega,fun H1 b S1 hb => ?_⟩
    have e:(hs.map V.ref).eraseIdx k=(hs.eraseIdx k).map V.ref:=by
      rw[ZX,ZX,Zn,List.map_take,List.map_drop]
    rw[e]at hb;refine⟨b,hs.eraseIdx k,ds.eraseIdx k,rfl,.of hb,⟨?_,fun i t d e1 e2 => ?_⟩,?_,fun d hd=>h8 d (Yd hd),fun H2 l as S2 hl R2=>q H2 l as (S1.trans S2) (S1.free hl) R2⟩
    . rw[List.length_eraseIdx,List.length_eraseIdx,hl]
    . rw[Yi]at e1 e2
      by_cases hik:i<k
      . rw[if_pos hik]at e1 e2
        exact(hH.hand.mono S1).2 i t d e1 e2
      . rw[if_neg hik]at e1 e2
        exact(hH.hand.mono S1).2 (i+1) t d e1 e2
    . exact Zd (List.length_eraseIdx_le _ _) h4
end
structure HHand(H:Hp)(t:Addr)(d:HD)(w g:Addr)(gs:List Addr):Prop where
  tup:H t=some (.tup [.str d.name,.ref w,.ref g])
  words:H w=some (.tup (d.words.map V.str))
  grid:H g=some (.tup (gs.map V.ref))
  len:gs.length=d.worths.length
  row:∀(i:Nat) (r:Addr) (ns:List Int),gs[i]? = some r->d.worths[i]? = some ns->H r=some (.tup (ns.map V.int))
theorem HHand.mono{H H':Hp}{t:Addr}{d:HD}{w g:Addr}{gs:List Addr}(S:Same H H')(h:HHand H t d w g gs):HHand H' t d w g gs :=
  ⟨S _ _ h.tup,S _ _ h.words,S _ _ h.grid,h.len,fun i r ns e1 e2=>S _ _ (h.row i r ns e1 e2)⟩
theorem HHand.k{K:Fg}{H:Hp}{t:Addr}{d:HD}{w g:Addr}{gs:List Addr}(h:HHand H t d w g gs):KHand K H t d w g gs :=
  ⟨.of h.tup,.of h.words,.of h.grid,h.len,fun i r ns e1 e2=>.of (h.row i r ns e1 e2)⟩
def HHands(H:Hp)(hs:List Addr)(ds:List HD):Prop:=hs.length=ds.length/\∀(i:Nat) (t:Addr) (d:HD),hs[i]? = some t->ds[i]? = some d->∃w g gs,HHand H t d w g gs
theorem HHands.mono{H H':Hp}{hs:List Addr}{ds:List HD}(S:Same H H')(h:HHands H hs ds):HHands H' hs ds :=
  ⟨h.1,fun i t d e1 e2=>by
    obtain⟨w,g,gs,q⟩:=h.2 i t d e1 e2
    exact⟨w,g,gs,q.mono S⟩⟩
theorem HHands.snoc{H:Hp}{hs:List Addr}{ds:List HD}{t:Addr}{d:HD}{w g:Addr}{gs:List Addr}(h:HHands H hs ds)(q:HHand H t d w g gs):HHands H (hs++[t]) (ds++[d]):=by
  refine⟨by simp[h.1],fun i a e e1 e2 => ?_⟩
  by_cases hi:i<hs.length
  . rw[Zg hi]at e1
    rw[Zg (by rw[<-h.1];exact hi)]at e2;exact h.2 i a e e1 e2
  . rw[Zf (ZD.mp hi)]at e1
    rw[Zf (by rw[<-h.1];exact ZD.mp hi)]at e2
    have h0:i-hs.length=0:=by
      have:=(Zc.mp e1).1;simp at this;omega
    rw[h0]at e1;rw[<-h.1,h0]at e2;simp at e1 e2;subst e1 e2;exact⟨w,g,gs,q⟩
structure HHouse(H:Hp)(p o h:Addr)(hs:List Addr)(outs:List Str)(ds:List HD):Prop where
  tup:H p=some (.tup [.ref o,.ref h])
  outs:H o=some (.tup (outs.map V.str))
  hands:H h=some (.tup (hs.map V.ref))
  hand:HHands H hs ds
theorem HHouse.mono{H H':Hp}{p o h:Addr}{hs:List Addr}{outs:List Str}{ds:List HD}(S:Same H H')(q:HHouse H p o h hs outs ds):HHouse H' p o h hs outs ds :=
  ⟨S _ _ q.tup,S _ _ q.outs,S _ _ q.hands,q.hand.mono S⟩
theorem HHouse.k{K:Fg}{H:Hp}{p o h:Addr}{hs:List Addr}{outs:List Str}{ds:List HD}(q:HHouse H p o h hs outs ds):zcb K H p o h hs outs ds :=
  ⟨.of q.tup,.of q.outs,.of q.hands,q.hand.1,fun i t d e1 e2=>by
    obtain⟨w,g,gs,z⟩:=q.hand.2 i t d e1 e2
    exact⟨w,g,gs,z.k⟩⟩
structure IntTs(H:Hp)(ls:List Addr)(ps:List (List Int)):Prop where
  len:ls.length=ps.length
  at':∀(i:Nat) (l:Addr) (p:List Int),ls[i]? = some l->ps[i]? = some p->H l=some (.tup (p.map V.int))
theorem IntTs.mono{H H':Hp}{ls:List Addr}{ps:List (List Int)}(S:Same H H')(h:IntTs H ls ps):IntTs H' ls ps:=⟨h.len,fun i l p e1 e2=>S _ _ (h.at' i l p e1 e2)⟩
theorem IntTs.snoc{H:Hp}{ls:List Addr}{ps:List (List Int)}{l:Addr}{p:List Int}(h:IntTs H ls ps)(hl:H l=some (.tup (p.map V.int))):IntTs H (ls++[l]) (ps++[p]):=by
  refine⟨by simp[h.len],fun i a q e1 e2 => ?_⟩
  by_cases hi:i<ls.length
  . rw[Zg hi]at e1
    rw[Zg (by rw[<-h.len];exact hi)]at e2;exact h.at' i a q e1 e2
  . rw[Zf (ZD.mp hi)]at e1
    rw[Zf (by rw[<-h.len];exact ZD.mp hi)]at e2
    have h0:i-ls.length=0:=by
      have:=(Zc.mp e1).1;simp at this;omega
    rw[h0]at e1;rw[<-h.len,h0]at e2;simp at e1 e2;subst e1 e2;exact hl
def zjb:Sp:=fun vs H Q _=>∃(x:HX) (d:HD),vs=[.ref x.t]/\HandAt H x d/\d.worths.length<=8/\∀H' t w g gs,Same H H'->HHand H' t d w g gs->Q (.ref t) H'
def zcz:Sp:=fun vs H Q _=>∃(o b:Addr) (outs:List Str) (xs:List HX) (ds:List HD),vs=[.ref o,.ref b]/\H o=some (.lst (outs.map V.str))/\HandsL H b xs ds/\GoodHouse outs ds/\∀H' p o' h hs,Same H H'->HHouse H' p o' h hs outs ds->Q (.ref p) H'
def PvEH(rows:List (List Int))(H1:Hp)(i:Nat)(ys:List V)(H':Hp):Prop:=Same H1 H'/\∃gs:List Addr,ys=gs.map V.ref/\IntTs H' gs (rows.take i)
def PvDH(ds:List HD)(H1:Hp)(i:Nat)(ys:List V)(H':Hp):Prop:=Same H1 H'/\∃hs:List Addr,ys=hs.map V.ref/\HHands H' hs (ds.take i)
section
variable{P:Program}{w:World}{K:Fg}{mg:Str->Option Value}{base:Heap}{a:Ad}
theorem zdv (B:Bt mg) (on:FnAt P w K mg base "name_of" 1 ["hand"] (jj fun _ d=>.str d.name)) (yr:FnAt P w K mg base "words_of_hand" 1 ["hand"] (jj fun x _=>.ref x.w)) (wq:FnAt P w K mg base "worths_of_hand" 1 ["hand"] (jj fun x _=>.ref x.g))
    (D:zc K mg "kept_hand" pi ["hand"]):FnAt P w K mg base "kept_hand" 2 ["hand"] zjb:=by
  refine FnAt.of D sc_kept_hand (fun vs H Q E h => ?_) (fun f cdv A outer s H vs Q E hr h => ?_)
  . obtain⟨x,d,rfl,_⟩:=h
    rfl
  . obtain⟨x,d,rfl,hx,h8,q⟩:=h
    refine⟨_,(@zj _ _ _ _ _ (zw (i:=1) sc_kept_hand.nd rfl (Or.inl rfl) (vf oq rfl B.tuple q8 (za (yg ["row"] ["hand", "worths"] rfl (@yk _ _ _ _ (zi wq (hr.mono (by decide)) rfl (za (pv 0) (@zb _)))) (fun _=>(zn (i:=0) (show(["row", "hand", "worths"]:List Str).Nodup by decide +kernel) rfl (Or.inl rfl))) (fun _=>(@z9 _)) (fun _=>(vf oq rfl B.tuple q8 (za (pv 0) (@zb _)))) rfl (by decide +kernel) rfl rfl) (@zb _)))) (@zh _ _ _ (@zm _ _ _ _ (@wg _ _ _ _ _ (za (zi on (hr.mono (by decide)) rfl (za (pv 0) (@zb _))) (za (vf oq rfl B.tuple q8 (za (zi yr (hr.mono (by decide)) rfl (za (pv 0) (@zb _))) (@zb _))) (za (pv 1) (@zb _)))))))),?_⟩;rw[show start ["hand", "worths"] [V.ref x.t]=[some (V.ref x.t),none] from rfl];simp only[zf,ze,↓reduceIte];refine⟨x,d,rfl,hx,?_⟩;simp only[zf,ze,↓reduceIte];refine⟨⟨_,.of hx.grid⟩,fun dd => ?_⟩;refine yu (xs:=x.gs.map V.ref) (PvEH d.worths H) ⟨Same.refl _,[],rfl,rfl,fun i l p e=>by simp at e⟩ ?_ ?_ ?_
    . rintro i ys H2 hi ⟨S,gs,rfl,ty⟩
      rw[Za,hx.len]at hi;have ly:gs.length=i:=by rw[ty.len,Zj];omega
      exact⟨by rw[Za,ly];exact Zd hi (Zd h8 (by decide)),S.seq (.of hx.grid)⟩
    . rintro i y ys H2 hy ⟨S,gs,rfl,ty⟩
      obtain⟨r,hr',rfl⟩:=yp hy;have hi:i<d.worths.length:=by have:=(Zc.mp hr').1;have:=hx.len;omega
      have e2:d.worths[i]? = some d.worths[i]:=by simp[hi]
      simp only[zf,ze,↓reduceIte];refine⟨_,S.seq (.of (hx.row i r _ hr' e2)),fun l hl => ?_⟩;have S3:Same H2 (upd H2 l (.tup ((d.worths[i]).map V.int))):=Same.upd (Same.refl _) hl;refine⟨S.trans S3,gs++[l],by simp,?_⟩;rw[Zq,e2];exact(ty.mono S3).snoc zd
    . rintro ys H2 ⟨S,gs,rfl,ty⟩ l hl
      rw[Za,hx.len,Zt]at ty;have S3:Same H2 (upd H2 l (.lst (gs.map V.ref))):=Same.upd (Same.refl _) hl;refine⟨_,.of zd,fun l1 hl1 => ?_⟩;generalize upd H2 l (.lst (gs.map V.ref))=H3 at *;have S4:Same H3 (upd H3 l1 (.tup (gs.map V.ref))):=Same.upd (Same.refl _) hl1;have h4:upd H3 l1 (.tup (gs.map V.ref)) l1=some (.tup (gs.map V.ref)):=zd;generalize upd H3 l1 (.tup (gs.map V.ref))=H4 at *;have S24:=S.trans (S3.trans S4);refine⟨x,d,rfl,hx.mono S24,x,d,rfl,hx.mono S24,x.w,rfl,_,.of (hx.mono S24).words,fun l2 hl2=>⟨by decide,fun p hp => ?_⟩⟩;have S5:Same H4 (upd H4 l2 (.tup (d.words.map V.str))):=Same.upd (Same.refl _) hl2;have h5:upd H4 l2 (.tup (d.words.map V.str)) l2=some (.tup (d.words.map V.str)):=zd;generalize upd H4 l2 (.tup (d.words.map V.str))=H5 at *;have S6:Same H5 (upd H5 p (.tup [V.str d.name,V.ref l2,V.ref l1])):=Same.upd (Same.refl _) hp;exact q _ p l2 l1 gs (S24.trans (S5.trans S6)) ⟨zd,S6 _ _ h5,(S5.trans S6) _ _ h4,ty.len,fun i r ns e1 e2=>(S3.trans (S4.trans (S5.trans S6))) _ _ (ty.at' i r ns e1 e2)⟩
theorem zgc (B:Bt mg) (C:Ct K mg a) (nq:FnAt P w K mg base "makes_house" 6 ["outcomes", "hands"] zh4) (f_kept_hand:FnAt P w K mg base "kept_hand" 2 ["hand"] zjb) (D:zc K mg "house_of" ml ["outcomes", "hands"]):FnAtX P w K mg base "house_of" 7 ["outcomes", "hands"] zcz:=by
  refine FnAtX.of D zel (fun vs H Q E h => ?_) (fun f cdv A outer s H vs Q E hr h => ?_)
  . obtain⟨o,b,outs,xs,ds,rfl,_⟩:=h
    rfl
  . obtain⟨o,b,outs,xs,ds,rfl,ho,hh,g,q⟩:=h
    refine⟨_,(@zj _ _ _ _ _ (@xg _ _ _ _ _ _ _ _ (@vm _ _ _ _ (v6 (zi nq (hr.mono (by decide)) rfl (za (pv 0) (za (pv 1) (@zb _)))))) (@zh _ _ _ (cr rfl C.q_NoHouse.toErr rfl C.m_NoHouse (jy rfl) (za (@rk _ _ _ _) (@zb _)))) (@ye _)) (@zh _ _ _ (PS.nox (@zm _ _ _ _ (@wg _ _ _ _ _ (za (vf oq rfl B.tuple q8 (za (pv 0) (@zb _))) (za (vf oq rfl B.tuple q8 (za (yg ["hand"] ["outcomes", "hands"] rfl (@yk _ _ _ _ (pv 1)) (fun _=>(zn (i:=0) (show(["hand", "outcomes", "hands"]:List Str).Nodup by decide +kernel) rfl (Or.inl rfl))) (fun _=>(@z9 _)) (fun _=>(zi f_kept_hand (hr.mono (by decide)) rfl (za (pv 0) (@zb _)))) rfl (by decide +kernel) rfl rfl) (@zb _))) (@zb _)))))))),?_⟩;rw[show start ["outcomes", "hands"] [V.ref o,V.ref b]=[some (V.ref o),some (V.ref b)] from rfl];simp only[zf,ze,↓reduceIte];have g2:=g.hands;refine⟨o,b,outs,xs,ds,rfl,ho,hh,g,fun H1 S1 => ?_⟩;simp only[zf,ze,↓reduceIte];have hh1:=hh.mono S1;have ho1:=S1 _ _ ho;refine iteF ⟨_,.of ho1,fun l hl => ?_⟩;have S2:Same H1 (upd H1 l (.tup (outs.map V.str))):=Same.upd (Same.refl _) hl;have h2:upd H1 l (.tup (outs.map V.str)) l=some (.tup (outs.map V.str)):=zd;generalize upd H1 l (.tup (outs.map V.str))=H2 at *;have hh2:=hh1.mono S2;refine⟨⟨_,.of hh2.at'⟩,fun d => ?_⟩;refine yu (xs:=xs.map fun x=>V.ref x.t) (PvDH ds H2) ⟨Same.refl _,[],rfl,rfl,fun i t d e=>by simp at e⟩ ?_ ?_ ?_
    . rintro i ys H3 hi ⟨S,hs,rfl,ty⟩
      rw[Za,hh.len]at hi;have ly:hs.length=i:=by rw[ty.1,Zj];omega
      exact⟨by rw[Za,ly];exact Zd hi (Zd g2.2 (by decide)),S.seq (.of hh2.at')⟩
    . rintro i y ys H3 hy ⟨S,hs,rfl,ty⟩
      obtain⟨x,hx,rfl⟩:=yp hy;have hi:i<ds.length:=by have:=(Zc.mp hx).1;have:=hh.len;omega
      have e2:ds[i]? = some ds[i]:=by simp[hi]
      have hm:=Zl hi;have r8:(ds[i]).worths.length<=8:=by rw[g.rows _ hm];exact(g.words1 _ hm).2
      simp only[zf,ze,↓reduceIte];refine⟨x,ds[i],rfl,(hh2.hand i x ds[i] hx e2).mono S,r8,fun H4 p wd g' gs S4 tp => ?_⟩;refine⟨S.trans S4,hs++[p],by simp,?_⟩;rw[Zq,e2];exact(ty.mono S4).snoc tp
    . rintro ys H3 ⟨S,hs,rfl,ty⟩ l1 hl1
      rw[Za,hh.len,Zt]at ty;have S4:Same H3 (upd H3 l1 (.lst (hs.map V.ref))):=Same.upd (Same.refl _) hl1;refine⟨_,.of zd,fun l2 hl2=>⟨by decide,fun p hp => ?_⟩⟩;generalize upd H3 l1 (.lst (hs.map V.ref))=H4 at *;have S5:Same H4 (upd H4 l2 (.tup (hs.map V.ref))):=Same.upd (Same.refl _) hl2;have h5:upd H4 l2 (.tup (hs.map V.ref)) l2=some (.tup (hs.map V.ref)):=zd;generalize upd H4 l2 (.tup (hs.map V.ref))=H5 at *;have S6:Same H5 (upd H5 p (.tup [V.ref l,V.ref l2])):=Same.upd (Same.refl _) hp;have S36:=S4.trans (S5.trans S6);exact q _ p l l2 hs (S1.trans (S2.trans (S.trans S36))) ⟨zd,(S.trans S36) _ _ h2,S6 _ _ h5,ty.mono S36⟩
end
section
variable{α:Type}
def zb6(r:List α)(wss:List (List α)):Prop:=r.length=wss.length/\∀(j:Nat) (ws:List α),wss[j]? = some ws->∃w,r[j]? = some w/\w∈ws
theorem zj2{rs:List (List α)}{ws:List α}{r:List α}{w:α}(h1:r∈rs)(h2:w∈ws):r++[w]∈va rs ws:=by
  simp only[va,vj,YS,Zp];exact⟨_,⟨r,h1,rfl⟩,Zp.mpr ⟨w,h2,rfl⟩⟩
theorem zib(wss:List (List α)):∀n,n<=wss.length->∀r,r∈zz (wss.take n)↔zb6 r (wss.take n):=by
  intro n
  induction n with
  | zero =>
    intro _ r;simp only[List.take_zero,zz,List.foldl_nil,ZC]
    constructor
    . rintro rfl;exact⟨rfl,fun j ws e=>by simp at e⟩
    . intro h;exact Yr.mp h.1
  | succ n ih =>
    intro hn r;have e:wss[n]? = some wss[n]:=Zb (by omega);have et:wss.take (n+1)=wss.take n++[wss[n]]:=by rw[Zq,e];rfl
    have ln:(wss.take n).length=n:=by rw[Zj];omega
    rw[ui e]
    constructor
    . intro h
      obtain⟨q,w,h1,h2,rfl⟩:=fq h;obtain⟨p1,p2⟩:=(ih (by omega) q).mp h1;rw[ln]at p1;refine⟨by rw[et,Zo,Zo,p1,ln];rfl,fun j ws ej => ?_⟩;rw[et]at ej
      by_cases hj:j<n
      . rw[Zg (by omega)]at ej
        obtain⟨w',a1,a2⟩:=p2 j ws ej;exact⟨w',by rw[Zg (by omega)];exact a1,a2⟩
      . rw[Zf (by omega),ln]at ej
        have hj0:j-n=0:=by
          have:=(Zc.mp ej).1;simp at this;omega
        rw[hj0]at ej;simp at ej;subst ej;exact⟨w,by rw[Zf (by omega),p1,hj0];rfl,h2⟩
    . rintro⟨p1,p2⟩
      rw[et]at p1 p2;have lr:r.length=n+1:=by rw[p1,Zo,ln];rfl
      obtain⟨w,a1,a2⟩:=p2 n wss[n] (by rw[Zf (by omega),ln];simp)
      have er:r=r.take n++[w]:=by
        have:r.take (n+1)=r:=ZG (by omega);rw[Zq,a1]at this;exact this.symm
      rw[er];refine zj2 ((ih (by omega) _).mpr ⟨by rw[Zj,ln];omega,fun j ws ej => ?_⟩) a2;have hj:j<n:=by have:=(Zc.mp ej).1;omega
      obtain⟨w',b1,b2⟩:=p2 j ws (by rw[Zg (by omega)];exact ej);exact⟨w',by rw[List.getElem?_take,if_pos hj];exact b1,b2⟩
theorem rowsP_iff{wss:List (List α)}{r:List α}:r∈zz wss↔zb6 r wss:=by
  have:=zib wss wss.length (Zm _) r
  rwa [Zt]at this
theorem zek{rs:List (List α)}{ws:List α}(h1:rs.Nodup)(h2:ws.Nodup):(va rs ws).Nodup:=by
  induction rs with
  | nil=>exact YJ
  | cons r rs ih =>
    rw[ai];obtain⟨n1,n2⟩:=ZZ.mp h1;refine Yo.mpr ⟨?_,ih n2,fun x hx y hy e => ?_⟩
    . rw[vj]
      refine Yw.mpr (List.Pairwise.imp (fun {a b} hab e=>hab ?_) h2)
      simpa using e
    . obtain⟨w,_,rfl⟩:=Zp.mp hx
      obtain⟨q,w',hq,_,e2⟩:=fq hy;rw[e2]at e;have:=(List.append_inj' e rfl).1;exact n1 (this▸hq)
theorem p0{wss:List (List α)}(h:∀ws∈wss,ws.Nodup):(zz wss).Nodup:=by
  have:∀n,n<=wss.length->(zz (wss.take n)).Nodup:=by
    intro n
    induction n with
    | zero=>intro _;simp[zz]
    | succ n ih =>
      intro hn;have e:wss[n]? = some wss[n]:=Zb (by omega);rw[ui e];exact zek (ih (by omega)) (h _ (Zl _))
  have:=this wss.length (Zm _)
  rwa [Zt]at this
def insP(r:List α)(k:Nat)(w:α):List α:=r.take k++w::r.drop k
theorem zku{r:List α}{k:Nat}(w:α)(h:k<=r.length):(insP r k w).length=r.length+1:=by simp[insP];omega
theorem zmn{r:List α}{k:Nat}(w:α)(h:k<=r.length):(insP r k w)[k]? = some w:=by
  rw[insP,Zf (by rw[Zj];omega),Zj,YY h,Nat.sub_self];rfl
theorem ins_of{r:List α}{k:Nat}{w:α}(h:r[k]? = some w):insP (r.eraseIdx k) k w=r:=by
  have hk:=(Zc.mp h).1;have hw:r[k]=w:=(Zc.mp h).2
  rw[insP,ZX,List.take_append_of_le_length (by rw[Zj];omega),List.take_take,Nat.min_self,
    List.drop_append,List.drop_of_length_le (by rw[Zj];omega),Zj,YY (by omega),Nat.sub_self,Xd,ZT,<-hw,List.getElem_cons_drop,List.take_append_drop]
end
def yw(d:HD)(z:Str):List Int:=d.worths.getD (d.words.idxOf z) []
theorem cz:∀{zs:List Str} {m:Nat} {z:Str},zs[m]? = some z->zs.idxOf z<=m
  | [],m,z,h=>by simp at h
  | y::zs,0,z,h=>by
    simp at h;subst h;simp
  | y::zs,m+1,z,h=>by
    rw[Xb]
    cases y==z with
    | true=>exact ZE _
    | false=>exact YA (cz (by simpa using h))
theorem zfb(y z:Str):eqV (V.str y) (V.str z)=decide (y=z):=rfl
theorem ow{zs:List Str}{z:Str}(h:z∈zs):FirstAt (zs.map V.str) (V.str z) (zs.idxOf z):=by
  have hl:=Zz.mpr h;refine⟨rfl,?_,⟨V.str z,?_,?_⟩,fun m y hm e => ?_⟩
  . rw[ZR]
    intro x hx;obtain⟨y,_,rfl⟩:=Zp.mp hx;rfl
  . rw[Ze,Zb hl,Yp]
    rfl
  . rw[zfb]
    exact decide_eq_true rfl
  . rw[Ze]at e
    have hml:m<zs.length:=by omega
    rw[Zb hml]at e;cases e;rw[zfb,decide_eq_false];intro ez;have:=Zz.mpr h
    have hle:zs.idxOf z<=m:=by
      exact cz (by rw[Zb hml,ez])
    omega
def zf4(ds:List HD)(r:List Str):Prop:=r.length=ds.length/\∀(i:Nat) (d:HD) (z:Str),ds[i]? = some d->r[i]? = some z->z∈d.words
def af(K:Fg):Sp:=fun vs H Q _=>∃(t:Addr) (d:HD) (w g:Addr) (gs:List Addr) (z:Str),vs=[.ref t,.str z]/\HHand H t d w g gs/\z∈d.words/\d.worths.length=d.words.length/\∀r,H r=some (.tup ((yw d z).map V.int))->Q (.ref r) H
structure IntsAt(H:Hp)(ls:List Addr)(ps:List (List Int)):Prop where
  len:ls.length=ps.length
  at':∀(i:Nat) (l:Addr) (p:List Int),ls[i]? = some l->ps[i]? = some p->H l=some (.lst (p.map V.int))
theorem IntsAt.mono{H H':Hp}{ls:List Addr}{ps:List (List Int)}(S:Same H H')(h:IntsAt H ls ps):IntsAt H' ls ps:=⟨h.len,fun i l p e1 e2=>S _ _ (h.at' i l p e1 e2)⟩
theorem IntsAt.snoc{H:Hp}{ls:List Addr}{ps:List (List Int)}{l:Addr}{p:List Int}(h:IntsAt H ls ps)(hl:H l=some (.lst (p.map V.int))):IntsAt H (ls++[l]) (ps++[p]):=by
  refine⟨by simp[h.len],fun i a q e1 e2 => ?_⟩
  by_cases hi:i<ls.length
  . rw[Zg hi]at e1
    rw[Zg (by rw[<-h.len];exact hi)]at e2;exact h.at' i a q e1 e2
  . rw[Zf (ZD.mp hi)]at e1
    rw[Zf (by rw[<-h.len];exact ZD.mp hi)]at e2
    have h0:i-ls.length=0:=by
      have:=(Zc.mp e1).1;simp at this;omega
    rw[h0]at e1;rw[<-h.len,h0]at e2;simp at e1 e2;subst e1 e2;exact hl
section
variable{P:Program}{w:World}{K:Fg}{mg:Str->Option Value}{base:Heap}{a:Ad}
theorem zb2 (D:zc K mg "outcomes_of" rb ["house"]):FnAt P w K mg base "outcomes_of" 1 ["house"] (wz K 0):=by
  refine FnAt.of D zaq (fun vs H Q E h => ?_) (fun f cdv A outer s H vs Q E hr h => ?_)
  . obtain⟨t,us,v,rfl,_⟩:=h
    rfl
  . obtain⟨t,us,v,rfl,ht,e,q⟩:=h
    refine⟨_,(@zh _ _ _ (@zm _ _ _ _ (@z0 _ _ _ _ _ _ _ yh (pv 0) (@zg _ _ _ _) (fun _ _=>rfl)))),?_⟩;rw[show start ["house"] [V.ref t]=[some (V.ref t)] from rfl];simp only[zf,ze,↓reduceIte];exact⟨_,ht,_,zy (j:=0) e,q⟩
theorem ci (D:zc K mg "worths_of_hand" vn ["hand"]):FnAt P w K mg base "worths_of_hand" 1 ["hand"] (wz K 2):=by
  refine FnAt.of D md (fun vs H Q E h => ?_) (fun f cdv A outer s H vs Q E hr h => ?_)
  . obtain⟨t,us,v,rfl,_⟩:=h
    rfl
  . obtain⟨t,us,v,rfl,ht,e,q⟩:=h
    refine⟨_,(@zh _ _ _ (@zm _ _ _ _ (@z0 _ _ _ _ _ _ _ yh (pv 0) (@zg _ _ _ _) (fun _ _=>rfl)))),?_⟩;rw[show start ["hand"] [V.ref t]=[some (V.ref t)] from rfl];simp only[zf,ze,↓reduceIte];exact⟨_,ht,_,zy (j:=2) e,q⟩
theorem j5 (yr:FnAt P w K mg base "words_of_hand" 1 ["hand"] (wz K 1)) (wq:FnAt P w K mg base "worths_of_hand" 1 ["hand"] (wz K 2)) (D:zc K mg "worths_by" oi ["hand", "word"]):FnAt P w K mg base "worths_by" 2 ["hand", "word"] (af K):=by
  refine FnAt.of D zc5 (fun vs H Q E h => ?_) (fun f cdv A outer s H vs Q E hr h => ?_)
  . obtain⟨t,d,wd,g,gs,z,rfl,_⟩:=h
    rfl
  . obtain⟨t,d,wd,g,gs,z,rfl,hK,hz,hl,q⟩:=h
    refine⟨_,(@zh _ _ _ (@zm _ _ _ _ (@z0 _ _ _ _ _ _ _ yh (zi wq (hr.mono (by decide)) rfl (za (pv 0) (@zb _))) (zi0 PySem.F.plainAttrs_tuple PySem.F.slot_tuple_index PySem.F.type_tuple_index zbi (zi yr (hr.mono (by decide)) rfl (za (pv 0) (@zb _))) (za (pv 1) (@zb _))) (fun _ _=>rfl)))),?_⟩;rw[show start ["hand", "word"] [V.ref t,V.str z]=[some (V.ref t),some (V.str z)] from rfl];simp only[zf,ze,↓reduceIte];have hx:=Zz.mpr hz;have hr:d.words.idxOf z<d.worths.length:=by rw[hl];exact hx
    obtain⟨r,er⟩:∃r,gs[d.words.idxOf z]? = some r:=⟨gs[d.words.idxOf z]'(by rw[hK.len];exact hr),by simp⟩;have hrow:=hK.row _ r _ er (Zb hr);refine⟨t,_,_,rfl,.of hK.tup,rfl,t,_,_,rfl,.of hK.tup,rfl,?_⟩;refine⟨⟨wd,rfl,_,.of hK.words⟩,wd,rfl,_,.of hK.words,_,ow hz,g,rfl,_,.of hK.grid,_,zy (v:=V.ref r) (by rw[Ze,er];rfl),q r ?_⟩;rw[yw,Zk,Zb hr];exact hrow
end
structure MenuOk(outs:List Str)(mk:List (Key×V)):Prop where
  all:∀kv∈mk,∃(o:Str) (p:Int),o∈outs/\kv=(Sum.inr o,V.int p)
  nd:(mk.map (·.1)).Nodup
  few:mk.length<=64
def xk(mk:List (Key×V))(o:Str):Option Int:=match valV mk (Sum.inr o) with
  | some (.int p)=>some p
  | _=>none
theorem MenuOk.val{outs:List Str}{mk:List (Key×V)}(M:MenuOk outs mk)(o:Str):valV mk (Sum.inr o)=(xk mk o).map V.int:=by
  unfold xk
  cases e:valV mk (Sum.inr o) with
  | none=>rfl
  | some v =>
    have:∃kv∈mk,kv.1=Sum.inr o/\kv.2=v:=by
      unfold valV at e;obtain⟨kv,h1,h2⟩:=YN.mp e;exact⟨kv,List.mem_of_find?_eq_some h1,by simpa using List.find?_some h1,h2⟩
    obtain⟨kv,hm,h1,h2⟩:=this;obtain⟨o',p,_,rfl⟩:=M.all kv hm;rw[<-h2];rfl
def offers(mk:List (Key×V))(outs:List Str)(ws:List Int):Nat->List (Int×Str×Nat)
  | 0=>[]
  | i+1=>offers mk outs ws i++(match outs[i]?,ws[i]? with
    | some o,some n=>(match xk mk o with
      | some p=>[(n-p,o,i)]
      | none=>[])
    | _,_=>[])
theorem ir{mk:List (Key×V)}{outs:List Str}{ws:List Int}:∀(n:Nat) (x:Int×Str×Nat),x∈offers mk outs ws n->x.2.2<n/\outs[x.2.2]? = some x.2.1/\∃w p,ws[x.2.2]? = some w/\xk mk x.2.1=some p/\x.1=w-p
  | 0,x,h=>by cases h
  | n+1,x,h=>by
    rw[offers]at h
    rcases ZH.mp h with h | h
    . obtain⟨h1,h2⟩:=ir n x h
      exact⟨by omega,h2⟩
    . cases e1:outs[n]? with
      | none=>rw[e1]at h;cases h
      | some o =>
        cases e2:ws[n]? with
        | none=>rw[e1,e2]at h;cases h
        | some w =>
          rw[e1,e2]at h
          cases e3:xk mk o with
          | none=>simp only[e3]at h;cases h
          | some p =>
            simp only[e3]at h;rw[ZC.mp h];exact⟨Yz _,e1,w,p,e2,e3,rfl⟩
theorem fe{mk:List (Key×V)}{outs:List Str}{ws:List Int}{j:Nat}{o:Str}{w p:Int}(h1:outs[j]? = some o)(h2:ws[j]? = some w)(h3:xk mk o=some p):∀n,j<n->(w-p,o,j)∈offers mk outs ws n
  | 0,h=>absurd h (YH _)
  | n+1,h=>by
    rw[offers]
    by_cases e:j=n
    . subst e
      refine Zu _ ?_;rw[h1,h2];simp only[h3];exact ZC.mpr rfl
    . exact ZQ _ (fe h1 h2 h3 n (by omega))
theorem d5{mk:List (Key×V)}{outs:List Str}{ws:List Int}:∀n,(offers mk outs ws n).Pairwise fun x y=>x.2.2<y.2.2
  | 0=>List.Pairwise.nil
  | n+1=>by
    rw[offers];refine List.pairwise_append.mpr ⟨d5 n,?_,fun x hx y hy => ?_⟩
    . split
      . split
        . exact List.pairwise_singleton _ _
        . exact List.Pairwise.nil
      . exact List.Pairwise.nil
    . have h1:=(ir n x hx).1
      have h2:y.2.2=n:=by
        split at hy
        . split at hy
          . rw[ZC.mp hy]
          . cases hy
        . cases hy
      omega
def zdh(mk:List (Key×V))(outs:List Str)(ws:List Int)(i:Nat)(o:Str):Prop:=outs[i]? = some o/\∃w p,ws[i]? = some w/\xk mk o=some p/\∀(j:Nat) (o':Str) (w' p':Int),outs[j]? = some o'->ws[j]? = some w'->xk mk o'=some p'->w'-p'<=w-p/\(j<i->w'-p'<w-p)
structure OffAt(H:Hp)(as:List Addr)(os:List (Int×Str×Nat)):Prop where
  len:as.length=os.length
  at':∀(i:Nat) (a:Addr) (x:Int×Str×Nat),as[i]? = some a->os[i]? = some x->H a=some (.tup [.int x.1,.str x.2.1])
theorem OffAt.mono{H H':Hp}{as:List Addr}{os:List (Int×Str×Nat)}(S:Same H H')(h:OffAt H as os):OffAt H' as os:=⟨h.len,fun i a x e1 e2=>S _ _ (h.at' i a x e1 e2)⟩
theorem OffAt.snoc{H:Hp}{as:List Addr}{os:List (Int×Str×Nat)}{a:Addr}{x:Int×Str×Nat}(h:OffAt H as os)(ha:H a=some (.tup [.int x.1,.str x.2.1])):OffAt H (as++[a]) (os++[x]):=by
  refine⟨by simp[h.len],fun i b q e1 e2 => ?_⟩
  by_cases hi:i<as.length
  . rw[Zg hi]at e1
    rw[Zg (by rw[<-h.len];exact hi)]at e2;exact h.at' i b q e1 e2
  . rw[Zf (ZD.mp hi)]at e1
    rw[Zf (by rw[<-h.len];exact ZD.mp hi)]at e2
    have h0:i-as.length=0:=by
      have:=(Zc.mp e1).1;simp at this;omega
    rw[h0]at e1;rw[<-h.len,h0]at e2;simp at e1 e2;subst e1 e2;exact ha
def zjj(K:Fg):Sp:=fun vs H Q _=>∃(p o h me:Addr) (hs:List Addr) (outs:List Str) (ds:List HD) (k:Nat) (d:HD) (z:Str) (mk:List (Key×V)),vs=[.ref p,.int k,.ref me,.str z]/\HHouse H p o h hs outs ds/\GoodHouse outs ds/\ds[k]? = some d/\z∈d.words/\H me=some (.dK mk)/\MenuOk outs mk/\0<mk.length /\
  ∀H' i o',Same H H'->zdh mk outs (yw d z) i o'->Q (.str o') H'
def PvOff(H:Hp)(mk:List (Key×V))(outs:List Str)(ws:List Int)(i:Nat)(ys:List V)(H':Hp):Prop:=Same H H'/\∃as:List Addr,ys=as.map V.ref/\OffAt H' as (offers mk outs ws i)
section
variable{P:Program}{w:World}{K:Fg}{mg:Str->Option Value}{base:Heap}{a:Ad}
theorem g0 (D:zc K mg "left_of" jr ["offer"]):FnAt P w K mg base "left_of" 1 ["offer"] (wz K 0):=by
  refine FnAt.of D zfu (fun vs H Q E h => ?_) (fun f cdv A outer s H vs Q E hr h => ?_)
  . obtain⟨t,us,v,rfl,_⟩:=h
    rfl
  . obtain⟨t,us,v,rfl,ht,e,q⟩:=h
    refine⟨_,(@zh _ _ _ (@zm _ _ _ _ (@z0 _ _ _ _ _ _ _ yh (pv 0) (@zg _ _ _ _) (fun _ _=>rfl)))),?_⟩;rw[show start ["offer"] [V.ref t]=[some (V.ref t)] from rfl];simp only[zf,ze,↓reduceIte];exact⟨_,ht,_,zy (j:=0) e,q⟩
theorem kd (D:zc K mg "outcome_of" qj ["offer"]):FnAt P w K mg base "outcome_of" 1 ["offer"] (wz K 1):=by
  refine FnAt.of D zb0 (fun vs H Q E h => ?_) (fun f cdv A outer s H vs Q E hr h => ?_)
  . obtain⟨t,us,v,rfl,_⟩:=h
    rfl
  . obtain⟨t,us,v,rfl,ht,e,q⟩:=h
    refine⟨_,(@zh _ _ _ (@zm _ _ _ _ (@z0 _ _ _ _ _ _ _ yh (pv 0) (@zg _ _ _ _) (fun _ _=>rfl)))),?_⟩;rw[show start ["offer"] [V.ref t]=[some (V.ref t)] from rfl];simp only[zf,ze,↓reduceIte];exact⟨_,ht,_,zy (j:=1) e,q⟩
theorem zc4 (B:Bt mg) (f_hands_of:FnAt P w K mg base "hands_of" 1 ["house"] (wz K 1)) (f_outcomes_of:FnAt P w K mg base "outcomes_of" 1 ["house"] (wz K 0)) (j5:FnAt P w K mg base "worths_by" 2 ["hand", "word"] (af K)) (g0:FnAt P w K mg base "left_of" 1 ["offer"] (wz K 0)) (kd:FnAt P w K mg base "outcome_of" 1 ["offer"] (wz K 1)) (D:zc K mg "pick" ac ["house", "k", "menu", "word"]):FnAt P w K mg base "pick" 3 ["house", "k", "menu", "word"] (zjj K):=by
  refine FnAt.of D sc_pick (fun vs H Q E h => ?_) (fun f cdv A outer s H vs Q E hr h => ?_)
  . obtain⟨p,o,h,me,hs,outs,ds,k,d,z,mk,rfl,_⟩:=h
    rfl
  . obtain⟨p,o,h,me,hs,outs,ds,k,d,z,mk,rfl,hH,G,ed,hz,hme,M,hm0,q⟩:=h
    refine⟨_,(@zj _ _ _ _ _ (zw (i:=4) sc_pick.nd rfl (Or.inl rfl) (zi j5 (hr.mono (by decide)) rfl (za (@z0 _ _ _ _ _ _ _ yh (zi f_hands_of (hr.mono (by decide)) rfl (za (pv 0) (@zb _))) (pv 1) (fun _ _=>rfl)) (za (pv 3) (@zb _))))) (@zj _ _ _ _ _ (ux (i:=5) ["one", "worth"] ["house", "k", "menu", "word", "worths", "offers"] sc_pick.nd rfl rfl rfl (zl2 rfl B.zip (za (zi f_outcomes_of (hr.mono (by decide)) rfl (za (pv 0) (@zb _))) (za (pv 4) (@zb _)))) (fun _=>(si rfl (yx (zn (i:=0) (show(["one", "worth", "house", "k", "menu", "word", "worths", "offers"]:List Str).Nodup by decide +kernel) rfl (Or.inl rfl)) (yx (zn (i:=1) (show(["one", "worth", "house", "k", "menu", "word", "worths", "offers"]:List Str).Nodup by decide +kernel) rfl (Or.inl rfl)) (@uw _))))) (fun _=>(@zfq _ _ _ (@yn _ _ _ _ _ _ _ _ (op_inK (hu10 hr)) (pv 0) (pv 4) (by with_unfolding_all rfl)))) (fun _=>(@wg _ _ _ _ _ (za (@zl _ _ _ _ _ _ _ _ uq (pv 1) (@rf _ _ _ _ _ _ (hu10 hr) (pv 4) (pv 0) (fun _ _=>rfl))) (za (pv 0) (@zb _))))) rfl (by decide +kernel) rfl rfl rfl) (@zh _ _ _ (@zm _ _ _ _ (zi kd (hr.mono (by decide)) rfl (za (zml g0 (hr.mono (by decide)) rfl rfl B.max rfl (za (pv 5) (@zb _))) (@zb _))))))),?_⟩;rw[show start ["house", "k", "menu", "word", "worths", "offers"] [V.ref p,V.int k,V.ref me,V.str z]=[some (V.ref p),some (V.int k),some (V.ref me),some (V.str z),none,none] from rfl]
    (try dsimp only[xp,e_C,e_op,e_rI,xq,xt,x6,xx,x9,y4,e_B,x0,e_or,wb,x5,x8,y9,xw,y3,xz,xu,xy,yi,xr,y0,wc,xv,y7,e_CB,e_BM,y8,e_iL,wa,y6,cxK,noxK,xc,yz,yl]);(try simp only[zf,ze,↓reduceIte])
    have hk:k<ds.length:=(Zc.mp ed).1;obtain⟨t,ht⟩:∃t,hs[k]? = some t:=⟨hs[k]'(by rw[hH.hand.1];exact hk),by simp⟩;obtain⟨wd,g,gs,hK⟩:=hH.hand.2 k t d ht ed;have hG:=G.hand (Zi ed)
    have lwb:(yw d z).length=outs.length:=by
      have hx:=Zz.mpr hz;have hr:d.words.idxOf z<d.worths.length:=by rw[hG.rows];exact hx
      rw[yw,Zk,Zb hr];exact(hG.cols _ (Zl hr)).1
    have ho:=G.outs1;refine⟨p,_,_,rfl,.of hH.tup,rfl,h,rfl,_,.of hH.hands,_,zy (v:=V.ref t) (by rw[Ze,ht];rfl),?_⟩;refine⟨t,d,wd,g,gs,z,rfl,hK,hz,hG.rows,fun r hrr => ?_⟩;refine⟨p,_,_,rfl,.of hH.tup,rfl,o,rfl,?_⟩;generalize yw d z=ws at *
    have all:∀H',Same H H'->rn K H' [o,r] [outs.map V.str,ws.map V.int]:=fun H' S=>⟨rfl,fun j a xs e1 e2=>by
      match j with
      | 0=>simp at e1 e2;subst e1 e2;exact .inr (.of (S _ _ hH.outs))
      | 1=>simp at e1 e2;subst e1 e2;exact .inr (.of (S _ _ hrr))
      | j+2=>simp at e1⟩
    refine⟨r,rfl,⟨_,all H (Same.refl _)⟩,fun dd => ?_⟩
    have olen:∀n,(offers mk outs ws n).length<=n:=by
      intro n
      induction n with
      | zero=>exact Zm _
      | succ n ih =>
        rw[offers,Zo]
        have:(match outs[n]?,ws[n]? with
          | some o,some n'=>(match xk mk o with
            | some p=>[(n'-p,o,n)]
            | none=>[])
          | _,_=>[]).length<=1:=by
          split
          . split
            . exact Zm _
            . exact ZE _
          . exact ZE _
        omega
    refine zh2 (xss:=[outs.map V.str,ws.map V.int]) (n:=outs.length) (PvOff H mk outs ws) ⟨Same.refl _,[],rfl,rfl,fun i l p e=>by simp at e⟩ (fun xs hx => ?_) ⟨outs.map V.str,by simp,Za ..⟩ ?_ ?_ ?_
    . simp only[ZK,Zx,or_false]at hx
      rcases hx with rfl | rfl
      . rw[Za];exact Zm _
      . rw[Za,lwb];exact Zm _
    . rintro i ys H2 hi ⟨S,as,rfl,hI⟩
      refine⟨?_,all H2 S⟩;rw[Za,hI.len];exact Zd (olen i) (Zd hi (Zd ho.2 (by decide)))
    . rintro i vs ys H2 T hi lv hv hT ⟨S,as,rfl,hI⟩
      have e0:=hv 0 _ rfl;have e1:=hv 1 _ rfl;have hd:outs[i]? = some outs[i]:=Zb hi;obtain⟨wt,hwt⟩:∃t,ws[i]? = some t:=⟨ws[i]'(by rw[lwb];exact hi),by simp⟩;rw[Ze,hd]at e0;rw[Ze,hwt]at e1
      have ev:vs=[V.str outs[i],V.int wt]:=by
        match vs,lv with
        | [x,y],_ =>
          simp at e0 e1;rw[<-e0,<-e1]
      subst ev;have S1:Same H2 (upd H2 T (.tup [V.str outs[i],V.int wt])):=Same.upd (Same.refl _) hT;simp only[zf,ze,↓reduceIte];refine⟨_,.of zd,rfl,?_⟩;generalize upd H2 T (.tup [V.str outs[i],V.int wt])=H3 at *;simp only[zf,ze,↓reduceIte];have hm3:H3 me=some (.dK mk):=(S.trans S1) _ _ hme;have og:=offers.eq_2 mk outs ws i;rw[hd,hwt]at og;refine⟨_,DGet.k (k:=Sum.inr outs[i]) hm3,?_⟩;rw[M.val]
      cases ep:xk mk outs[i] with
      | none =>
        simp only[ep,Ye]at og;refine⟨S.trans S1,as,rfl,?_⟩;rw[og];exact hI.mono S1
      | some pr =>
        simp only[ep]at og;refine⟨V.int pr,?_,pr,rfl,by decide,fun T4 hT4 => ?_⟩
        . have:=DGet.k (k:=Sum.inr outs[i]) hm3
          rw[M.val,ep]at this;exact this
        . have S4:=Same.upd (o:=.tup [V.int (wt-pr),V.str outs[i]]) (Same.refl H3) hT4
          refine⟨S.trans (S1.trans S4),as++[T4],by simp,?_⟩;rw[og];exact(hI.mono (S1.trans S4)).snoc zd
    . rintro ys H2 ⟨S,as,rfl,hI⟩ l2 hl2
      have S2:=Same.upd (o:=.lst (as.map V.ref)) (Same.refl H2) hl2;have hI2:=hI.mono S2;have hl3:upd H2 l2 (.lst (as.map V.ref)) l2=some (.lst (as.map V.ref)):=zd;generalize upd H2 l2 (.lst (as.map V.ref))=H3 at *
      have hat:∀(i:Nat) (x:V),(as.map V.ref)[i]? = some x->∃(t:Addr) (y:Int×Str×Nat),x=.ref t/\(offers mk outs ws outs.length)[i]? = some y/\H3 t=some (.tup [.int y.1,.str y.2.1]):=by
        intro i x e;rw[Ze]at e;obtain⟨t,e1,e2⟩:=YN.mp e;have hi:i<(offers mk outs ws outs.length).length:=by rw[<-hI2.len];exact(Zc.mp e1).1
        exact⟨t,_,e2.symm,Zb hi,hI2.at' i t _ e1 (Zb hi)⟩
      refine⟨_,.of hl3,?_,fun i=>((offers mk outs ws outs.length)[i]?.map (·.1)).getD 0,fun i x e => ?_,fun i x e hb => ?_⟩
      . rw[Za,hI2.len]
        obtain⟨kv,hkv⟩:∃kv,kv∈mk:=⟨mk[0],Zl hm0⟩;obtain⟨o',pr,ho',e⟩:=M.all kv hkv;obtain⟨j,hj,ej⟩:=Zy ho';obtain⟨wt,hwt⟩:∃t,ws[j]? = some t:=⟨ws[j]'(by rw[lwb];exact hj),by simp⟩
        have hp:∃p',xk mk o'=some p':=by
          cases ep:xk mk o' with
          | some p'=>exact⟨p',rfl⟩
          | none =>
            exfalso
            have hv:=M.val o';rw[ep]at hv;unfold valV at hv;have:=Option.map_eq_none_iff.mp hv;rw[List.find?_eq_none]at this;have:=this kv hkv;rw[e]at this;simp at this
        obtain⟨p',hp⟩:=hp;exact List.length_pos_of_mem (fe (by rw[Zb hj,ej]) hwt hp outs.length hj)
      . obtain⟨t,y,rfl,ey,hy⟩:=hat i x e
        refine⟨t,_,_,rfl,.of hy,rfl,?_,rfl⟩;simp only[ey];rfl
      . obtain⟨t,y,rfl,ey,hy⟩:=hat i x e
        refine⟨t,_,_,rfl,.of hy,rfl,q H3 y.2.2 y.2.1 (S.trans S2) ?_⟩;obtain⟨hlt,ho',wt,pr,hw',hp',hxe⟩:=ir _ y (Zi ey);refine⟨ho',wt,pr,hw',hp',fun j o2 w2 p2 h1 h2 h3 => ?_⟩;have hj:j<outs.length:=(Zc.mp h1).1;obtain⟨m,hm,em⟩:=Zy (fe h1 h2 h3 outs.length hj);have em':(offers mk outs ws outs.length)[m]? = some (w2-p2,o2,j):=by rw[Zb hm,em]
        have hb':=hb m (by rw[Za,hI2.len];exact hm);simp only[em',ey,YG,Xg]at hb';rw[<-hxe];refine⟨hb'.1,fun hji=>hb'.2 ?_⟩;obtain⟨hil,ei⟩:=Zc.mp ey
        rcases Nat.lt_trichotomy m i with h | h | h
        . exact h
        . subst h
          rw[ei]at em;rw[em]at hji;exact absurd hji (ZJ _)
        . have:=Yb.mp (d5 (mk:=mk) (outs:=outs) (ws:=ws) outs.length) i m hil hm h
          rw[ei,em]at this;simp at this;omega
end
def z7(r:List Str):List Key:=r.map Sum.inr
theorem wj(r:List Str):(z7 r).map kV=r.map V.str:=by
  rw[z7,YZ];rfl
theorem vv{r q:List Str}(h:z7 r=z7 q):r=q:=by
  induction r generalizing q with
  | nil=>cases q with
    | nil=>rfl
    | cons _ _=>cases h
  | cons x xs ih=>cases q with
    | nil=>cases h
    | cons y ys =>
      rw[z7,z7,ZL,ZL]at h
      injection h with h1 h2
      injection h1 with h1
      rw[h1,ih h2]
def yb(f:List Str->Str)(rs:List (List Str)):List (List Key×V):=rs.map fun r=>(z7 r,V.str (f r))
theorem zd6(f:List Str->Str)(rs:List (List Str)):(yb f rs).map (·.1)=rs.map z7:=by rw[yb,YZ];rfl
theorem ziz{f:List Str->Str}{rs:List (List Str)}(h:rs.Nodup):((yb f rs).map (·.1)).Nodup:=by
  rw[zd6];exact Yw.mpr (List.Pairwise.imp (fun {a b} hab e=>hab (vv e)) h)
theorem gr{f:List Str->Str}{rs:List (List Str)}{r:List Str}(h:r∈rs):valV (yb f rs) (z7 r)=some (V.str (f r)):=by
  induction rs with
  | nil=>cases h
  | cons q rs ih =>
    rw[yb,ZL]
    by_cases e:q=r
    . rw[pc (by rw[e]),e]
    . rw[u7 (fun z=>e (vv z))]
      exact ih ((ZK.mp h).resolve_left fun z=>e z.symm)
theorem dz{H H':Hp}{Ts:List Addr}{kvs:List (List Key×V)}(S:Same H H')(h:qr H Ts kvs):qr H' Ts kvs:=⟨h.len,fun i T kv e1 e2=>by
  obtain⟨b,h1,h2⟩:=h.at' i T kv e1 e2
  exact⟨b,S _ _ h1,S _ _ h2⟩⟩
theorem zd4{H:Hp}{Ts:List Addr}{kvs:List (List Key×V)}{T b:Addr}{kv:List Key×V}(h:qr H Ts kvs)(hT:H T=some (.tup [.ref b,kv.2]))(hb:H b=some (.tup (kv.1.map kV))):qr H (Ts++[T]) (kvs++[kv]):=by
  refine⟨by simp[h.len],fun i a q e1 e2 => ?_⟩
  by_cases hi:i<Ts.length
  . rw[Zg hi]at e1
    rw[Zg (by rw[<-h.len];exact hi)]at e2;exact h.at' i a q e1 e2
  . rw[Zf (ZD.mp hi)]at e1
    rw[Zf (by rw[<-h.len];exact ZD.mp hi)]at e2
    have h0:i-Ts.length=0:=by
      have:=(Zc.mp e1).1;simp at this;omega
    rw[h0]at e1;rw[<-h.len,h0]at e2;simp at e1 e2;subst e1 e2;exact⟨b,hT,hb⟩
def kx(K:Fg):Sp:=fun vs H Q _=>∃(g:Addr) (as:List Addr) (rows:List (List Int)) (s t:Nat) (ns:List Int) (x y:Int),vs=[.ref g,.int s,.int t]/\GridL K H g as rows/\rows[t]? = some ns/\ns[t]? = some x/\ns[s]? = some y/\Q (.int (x-y)) H
def gcA(rows:List (List Int))(t s:Nat):Int:=(rows.getD t []).getD s 0
def jc(rows:List (List Int))(ps:List Int)(t s:Nat):Int:=ps.getD t 0-ps.getD s 0-(gcA rows t t-gcA rows t s)
def zck(rows:List (List Int))(n:Nat):Prop:=∀i:Nat,i<n->∃ns:List Int,rows[i]? = some ns/\ns.length=n
theorem ig{rows:List (List Int)}{t s:Nat}{ns:List Int}(h:rows[t]? = some ns)(hs:s<ns.length):ns[s]? = some (gcA rows t s):=by
  unfold gcA;rw[Zk,Zk,h];simp[hs]
theorem ziy{ps:List Int}{t:Nat}(h:t<ps.length):ps[t]? = some (ps.getD t 0):=by
  rw[Zk];simp[h]
def zes(K:Fg):Sp:=fun vs H Q _=>∃(g p:Addr) (as:List Addr) (rows:List (List Int)) (ps:List Int) (n s t:Nat),vs=[.ref g,.ref p,.int t,.int s]/\GridL K H g as rows/\SqL K H p (ps.map V.int)/\ps.length=n/\zck rows n/\s<n/\t<n/\Q (.int (jc rows ps t s)) H
def First(rows:List (List Int))(ps:List Int)(n:Nat):Option (Nat×Nat)->Prop
  | none=>∀t s:Nat,t<n->s<n->jc rows ps t s<=0
  | some (t,s)=>t<n/\s<n/\0<jc rows ps t s/\∀t' s':Nat,t'<n->s'<n->(t'<t\/(t'=t/\s'<s))->jc rows ps t' s'<=0
def spFG(K:Fg):Sp:=fun vs H Q _=>∃(g p:Addr) (as:List Addr) (rows:List (List Int)) (ps:List Int) (n:Nat),vs=[.ref g,.ref p]/\GridL K H g as rows/\as.length=n/\SqL K H p (ps.map V.int)/\ps.length=n/\n<=8/\zck rows n /\
  (First rows ps n none->Q .non H)/\∀t s:Nat,First rows ps n (some (t,s))->∀l,H l=none->Q (.ref l) (upd H l (.tup [.int t,.int s,.int (jc rows ps t s)]))
def PvFG(g p:Addr)(rows:List (List Int))(ps:List Int)(n:Nat)(k:Nat)(H:Hp)(i:Nat)(σ:L2.St)(H4:Hp):Prop:=H4=H/\(∃vs:List (Option V),vs.length=k/\σ=some (.ref g)::some (.ref p)::vs)/\∀t s:Nat,t<i->s<n->jc rows ps t s<=0
def PvFG2(g p:Addr)(rows:List (List Int))(ps:List Int)(n:Nat)(k:Nat)(H:Hp)(t:Nat)(j:Nat)(σ:L2.St)(H4:Hp):Prop:=H4=H/\(∃vs:List (Option V),vs.length=k/\σ=some (.ref g)::some (.ref p)::some (.int t)::vs)/\∀s:Nat,s<j->jc rows ps t s<=0
section
variable{P:Program}{w:World}{K:Fg}{mg:Str->Option Value}{base:Heap}
theorem u8 (D:zc K mg "turn" ay ["grid", "s", "t"]):FnAt P w K mg base "turn" 1 ["grid", "s", "t"] (kx K):=by
  refine FnAt.of D zl5 (fun vs H Q E h => ?_) (fun f cdv A outer s H vs Q E hr h => ?_)
  . obtain⟨g,as,rows,s,t,ns,x,y,rfl,_⟩:=h
    rfl
  . obtain⟨g,as,rows,s,t,ns,x,y,rfl,G,h1,h2,h3,q⟩:=h
    refine⟨_,(@zh _ _ _ (@zm _ _ _ _ (@zl _ _ _ _ _ _ _ _ uq (@z0 _ _ _ _ _ _ _ yf (@z0 _ _ _ _ _ _ _ yf (pv 0) (pv 2) (fun _ _=>rfl)) (pv 2) (fun _ _=>rfl)) (@z0 _ _ _ _ _ _ _ yf (@z0 _ _ _ _ _ _ _ yf (pv 0) (pv 2) (fun _ _=>rfl)) (pv 1) (fun _ _=>rfl))))),?_⟩;rw[show start ["grid", "s", "t"] [V.ref g,V.int s,V.int t]=[some (V.ref g),some (V.int s),some (V.int t)] from rfl];simp only[zf,ze,↓reduceIte];obtain⟨r,e1,e2⟩:=zdg G h1;exact⟨_,G.1,_,e1,r,rfl,_,e2,_,l8 h2,_,G.1,_,e1,r,rfl,_,e2,_,l8 h3,_,rfl,_,rfl,q⟩
theorem zdq (u8:FnAt P w K mg base "turn" 1 ["grid", "s", "t"] (kx K)) (D:zc K mg "gain" zah ["grid", "pays", "t", "s"]):FnAt P w K mg base "gain" 2 ["grid", "pays", "t", "s"] (zes K):=by
  refine FnAt.of D zmo (fun vs H Q E h => ?_) (fun f cdv A outer s H vs Q E hr h => ?_)
  . obtain⟨g,p,as,rows,ps,n,s,t,rfl,_⟩:=h
    rfl
  . obtain⟨g,p,as,rows,ps,n,s,t,rfl,G,hp,lp,hw,hs,ht,q⟩:=h
    refine⟨_,(@zh _ _ _ (@zm _ _ _ _ (@zl _ _ _ _ _ _ _ _ uq (@zl _ _ _ _ _ _ _ _ uq (@z0 _ _ _ _ _ _ _ yf (pv 1) (pv 2) (fun _ _=>rfl)) (@z0 _ _ _ _ _ _ _ yf (pv 1) (pv 3) (fun _ _=>rfl))) (zi u8 (hr.mono (by decide)) rfl (za (pv 0) (za (pv 3) (za (pv 2) (@zb _)))))))),?_⟩;rw[show start ["grid", "pays", "t", "s"] [V.ref g,V.ref p,V.int t,V.int s]=[some (V.ref g),some (V.ref p),some (V.int t),some (V.int s)] from rfl];simp only[zf,ze,↓reduceIte];obtain⟨ns,e1,l1⟩:=hw t ht;refine⟨_,hp,_,l8 (ziy (by omega)),_,hp,_,l8 (ziy (by omega)),_,rfl,_,rfl,g,as,rows,s,t,ns,_,_,rfl,G,e1,ig e1 (by omega),ig e1 (by omega),?_⟩;simp only[zf,ze,↓reduceIte];exact q
theorem l9 (B:Bt mg) (zdq:FnAt P w K mg base "gain" 2 ["grid", "pays", "t", "s"] (zes K)) (D:zc K mg "first_gain" r6 ["grid", "pays"]):FnAt P w K mg base "first_gain" 3 ["grid", "pays"] (spFG K):=by
  refine FnAt.of D sc_first_gain (fun vs H Q E h => ?_) (fun f cdv A outer s H vs Q E hr h => ?_)
  . obtain⟨g,p,as,rows,ps,n,rfl,_⟩:=h
    rfl
  . obtain⟨g,p,as,rows,ps,n,rfl,G,la,hp,lp,hn,hw,q0,q1⟩:=h
    refine⟨_,(@zj _ _ _ _ _ (we PassesOwn.never rfl (yv rfl B.range (za (zq zt rfl B.len yc (za (pv 0) (@zb _))) (@zb _))) (zn (i:=2) sc_first_gain.nd rfl (Or.inl rfl)) (@zh _ _ _ (we PassesOwn.never rfl (yv rfl B.range (za (zq zt rfl B.len yc (za (pv 0) (@zb _))) (@zb _))) (zn (i:=3) sc_first_gain.nd rfl (Or.inl rfl)) (@zj _ _ _ _ _ (zw (i:=4) sc_first_gain.nd rfl (Or.inl rfl) (zi zdq (hr.mono (by decide)) rfl (za (pv 0) (za (pv 1) (za (pv 2) (za (pv 3) (@zb _))))))) (@zh _ _ _ (@xg _ _ _ _ _ _ _ _ (@yn _ _ _ _ _ _ _ _ zfy (pv 4) (@zg _ _ _ _) (yt _)) (@zh _ _ _ (@zm _ _ _ _ (@wg _ _ _ _ _ (za (pv 2) (za (pv 3) (za (pv 4) (@zb _))))))) (@ye _))))))) (@zh _ _ _ (@zm _ _ _ _ (@oy _ _ _)))),?_⟩;rw[show start ["grid", "pays", "t", "s", "more"] [V.ref g,V.ref p]=[some (V.ref g),some (V.ref p),none,none,none] from rfl]
    (try dsimp only[xp,e_C,e_op,e_rI,xq,xt,x6,xx,x9,y4,e_B,x0,e_or,wb,x5,x8,y9,xw,y3,xz,xu,xy,yi,xr,y0,wc,xv,y7,e_CB,e_BM,y8,e_iL,wa,y6,cxK,noxK,xc,yz,yl]);(try simp only[zf,ze,↓reduceIte])
    refine⟨_,.inl G.1,?_⟩;rw[Za,la];refine⟨by omega,by omega,?_⟩;rw[Zw];refine vg (PvFG g p rows ps n 3 H) ⟨rfl,⟨_,rfl,rfl⟩,fun t s h=>by omega⟩ ?_ ?_
    . rintro i σ H4 hi ⟨rfl,⟨vs,lv,rfl⟩,no⟩
      match vs,lv with
      | [v2,v3,v4],_ =>
      simp only[zf,ze,↓reduceIte];refine⟨_,.inl G.1,?_⟩;rw[Za,la];refine⟨by omega,by omega,?_⟩;rw[Zw];refine vg (PvFG2 g p rows ps n 2 H4 i) ⟨rfl,⟨_,rfl,rfl⟩,fun s h=>by omega⟩ ?_ ?_
      . rintro j σ H5 hj ⟨rfl,⟨vs,lv,rfl⟩,no2⟩
        match vs,lv with
        | [v3,v4],_ =>
        simp only[zf,ze,↓reduceIte];refine⟨g,p,as,rows,ps,n,j,i,rfl,G,hp,lp,hw,hj,hi,?_⟩;simp only[zf,ze,↓reduceIte];refine ite2 (fun h => ?_) fun h => ?_
        . refine⟨by decide,q1 i j ⟨hi,hj,of_decide_eq_true h,fun t' s' h1 h2 h3 => ?_⟩⟩
          rcases h3 with z | ⟨rfl,z⟩
          . exact no t' s' z h2
          . exact no2 s' z
        . refine⟨rfl,⟨_,rfl,rfl⟩,fun s hs => ?_⟩
          by_cases e:s=j
          . subst e
            exact Int.not_lt.mp fun z=>h (decide_eq_true z)
          . exact no2 s (by omega)
      . rintro σ H5 ⟨rfl,⟨vs,lv,rfl⟩,no2⟩
        refine⟨rfl,⟨_,by simp[lv],rfl⟩,fun t s ht hs => ?_⟩
        by_cases e:t=i
        . subst e;exact no2 s hs
        . exact no t s (by omega) hs
    . rintro σ H4 ⟨rfl,⟨vs,lv,rfl⟩,no⟩
      simp only[zf,ze,↓reduceIte];exact q0 fun t s ht hs=>no t s ht hs
end
def z8(rows:List (List Int))(s t:Nat):Int:=gcA rows t t-gcA rows t s
theorem au(rows:List (List Int))(t:Nat):z8 rows t t=0:=by unfold z8;omega
def di:Nat->List Nat->Nat
  | a,[]=>a
  | _,w::ws=>di w ws
abbrev nI(ws:List Nat):List Int:=ws.map fun w:Nat=>((w:Nat):Int)
theorem zet:∀{ws:List Nat} {a:Nat},((nI (a::ws)).map V.int)=((nI (a::ws)).map V.int).dropLast++[V.int (di a ws)]
  | [],a=>rfl
  | w::ws,a=>by
    have ih:=@zet ws w
    show V.int a::((nI (w::ws)).map V.int)=V.int a::(((nI (w::ws)).map V.int).dropLast++[V.int (di w ws)])
    rw[<-ih]
theorem zex(a:Nat)(ws:List Nat):atI ((nI (a::ws)).map V.int) (-1)=some (V.int (di a ws)):=by
  rw[zet];exact zkc _ _
def wk(T:Nat->Nat->Int):Nat->List Nat->Int
  | _,[]=>0
  | a,w::ws=>T a w+wk T w ws
def lst:Nat->List Nat->Nat
  | a,[]=>a
  | _,w::ws=>lst w ws
theorem vo:∀(ws:List Nat) (a x:Nat),lst a (ws++[x])=x
  | [],_,_=>rfl
  | w::ws,_,x=>vo ws w x
theorem zao:∀(ps:List Nat) (a b:Nat) (ss:List Nat),lst a (ps++b::ss)=lst b ss
  | [],_,_,_=>rfl
  | p::ps,_,b,ss=>zao ps p b ss
theorem im(T:Nat->Nat->Int):∀(ps:List Nat) (a b:Nat) (ss:List Nat),wk T a (ps++b::ss)=wk T a (ps++[b])+wk T b ss
  | [],a,b,ss=>by show T a b+wk T b ss=T a b+0+wk T b ss;omega
  | p::ps,a,b,ss=>by
    show T a p+wk T p (ps++b::ss)=T a p+wk T p (ps++[b])+wk T b ss
    rw[im T ps p b ss];omega
theorem uy(T:Nat->Nat->Int):∀(ws:List Nat) (a x:Nat),wk T a (ws++[x])=wk T a ws+T (lst a ws) x
  | [],a,x=>by show T a x+0=0+T a x;omega
  | w::ws,a,x=>by
    show T a w+wk T w (ws++[x])=T a w+wk T w ws+T (lst w ws) x
    rw[uy T ws w x];omega
theorem ze7:∀(ws:List Nat) (a:Nat),lst a ws∈a::ws
  | [],a=>by simp[lst]
  | w::ws,a=>Zv _ (ze7 ws w)
theorem u6:∀(ws:List Nat) (a:Nat),a::ws=(a::ws).dropLast++[lst a ws]
  | [],a=>rfl
  | w::ws,a=>by
    have ih:=u6 ws w
    show a::(w::ws)=a::((w::ws).dropLast++[lst w ws])
    rw[<-ih]
structure Wk(n k s t:Nat)(ws:List Nat):Prop where
  len:ws.length=k
  lt:∀x∈ws,x<n
  to:lst s ws=t
structure Least(T:Nat->Nat->Int)(n k s t:Nat)(ws:List Nat):Prop where
  w:Wk n k s t ws
  least:∀ws',Wk n k s t ws'->wk T s ws<=wk T s ws'
theorem Least.one(T:Nat->Nat->Int){n s t:Nat}(ht:t<n):Least T n 1 s t [t]:=by
  refine⟨⟨rfl,fun x hx=>by rw[ZC.mp hx];exact ht,rfl⟩,fun ws' h => ?_⟩
  match ws',h.len,h.to with
  | [x],_,h2 =>
    have e:x=t:=h2;subst e;exact YD _
theorem Least.more{T:Nat->Nat->Int}{n k s t:Nat}(ht:t<n)(f:Nat->List Nat)(hf:∀u,u<n->Least T n k s u (f u))(hk:0<k){i:Nat}(hi:i<n)(hm:∀u,u<n->wk T s (f i)+T i t<=wk T s (f u)+T u t):Least T n (k+1) s t (f i++[t]):=by
  have hi':=(hf i hi).w;refine⟨⟨by rw[Zo,hi'.len];rfl,fun x hx => ?_,vo _ _ _⟩,fun ws' h => ?_⟩
  . rcases ZH.mp hx with z | z
    . exact hi'.lt x z
    . rw[ZC.mp z];exact ht
  . have hne:ws'≠[]:=by intro e;subst e;have:=h.len;simp at this
    obtain⟨w,r,rfl⟩:∃w r,ws'=w::r:=by
      cases ws' with
      | nil=>exact absurd rfl hne
      | cons w r=>exact⟨w,r,rfl⟩
    have e1:=u6 r w;have e2:lst w r=t:=h.to;rw[e2]at e1;generalize hp:(w::r).dropLast=p at e1;rw[e1]at h ⊢;rw[uy,uy];have hl:p.length=k:=by have:=h.len;rw[Zo]at this;simpa using this
    have hlt:∀x∈p,x<n:=fun x hx=>h.lt x (ZQ _ hx)
    have hu:lst s p<n:=by
      cases p with
      | nil=>simp at hl;omega
      | cons y q=>exact hlt _ (ze7 q y)
    have q:=(hf (lst s p) hu).least p ⟨hl,hlt,rfl⟩;have q2:=hm (lst s p) hu;have q3:=hi'.to;rw[q3];omega
def NoNeg(T:Nat->Nat->Int)(n k:Nat):Prop:=∀s ws,s<n->Wk n k s s ws->0<=wk T s ws
theorem NoNeg.zero(T:Nat->Nat->Int)(n:Nat):NoNeg T n 0:=fun s ws _ h=>by
  have:=h.len
  cases ws with
  | nil=>exact YD _
  | cons _ _=>simp at this
theorem NoNeg.one{T:Nat->Nat->Int}(h0:∀t,T t t=0)(n:Nat):NoNeg T n 1:=fun s ws _ h=>by
  match ws,h.len,h.to with
  | [x],_,h2 =>
    have e:x=s:=h2;subst e
    show 0<=T x x+0
    rw[h0];exact YD _
theorem twice{l:List Nat}(h:¬l.Nodup):∃x A B C,l=A++x::(B++x::C):=by
  induction l with
  | nil=>exact absurd YJ h
  | cons a r ih =>
    by_cases ha:a∈r
    . obtain⟨B,C,e⟩:=List.append_of_mem ha
      exact⟨a,[],B,C,by rw[e];rfl⟩
    . have hr:¬r.Nodup:=fun q=>h (ZZ.mpr ⟨ha,q⟩)
      obtain⟨x,A,B,C,e⟩:=ih hr;exact⟨x,a::A,B,C,by rw[e];rfl⟩
theorem parts{T:Nat->Nat->Int}{n k s:Nat}{ws:List Nat}(hs:s<n)(hk:0<k)(h:Wk n k s s ws)(hd:¬(s::ws.dropLast).Nodup)(hno:∀j,j<k->NoNeg T n j):0<=wk T s ws:=by
  obtain⟨x,A,B,C,e⟩:=twice hd;have hne:ws≠[]:=by intro q;subst q;have:=h.len;simp at this;omega
  obtain⟨w,r,rfl⟩:∃w r,ws=w::r:=by
    cases ws with
    | nil=>exact absurd rfl hne
    | cons w r=>exact⟨w,r,rfl⟩
  have e1:=u6 r w;have e2:lst w r=s:=h.to;rw[e2]at e1;generalize hp:(w::r).dropLast=p at e e1;rw[e1]at h ⊢;have hlen:p.length+1=k:=by have:=h.len;rw[Zo]at this;simpa using this
  have hlt:=h.lt
  cases A with
  | nil =>
    injection e with ea eb
    subst ea;rw[eb]at hlen hlt ⊢;have l1:B.length+1+C.length+1=k:=by rw[Zo,ZM]at hlen;omega
    rw[List.append_assoc,ZV,im]
    have q1:=hno (B.length+1) (by omega) s (B++[s]) hs ⟨by simp,fun y hy=>hlt y (by
      simp only[ZH,ZK,ZC]at hy ⊢
      rcases hy with z | z
      . exact .inl (.inl z)
      . exact .inr (by simpa using z)),vo _ _ _⟩
    have q2:=hno (C.length+1) (by omega) s (C++[s]) hs ⟨by simp,fun y hy=>hlt y (by
      simp only[ZH,ZK,ZC]at hy ⊢
      rcases hy with z | z
      . exact .inl (.inr (.inr z))
      . exact .inr (by simpa using z)),vo _ _ _⟩
    omega
  | cons a A =>
    obtain⟨ea,eb⟩:s=a/\p=A++x::(B++x::C):=by
      injection e with ea eb
      exact⟨ea,eb⟩
    subst ea;rw[eb]at hlen hlt ⊢
    have l1:A.length+1+B.length+1+C.length+1=k:=by
      simp only[Zo,ZM]at hlen;omega
    have hx:x<n:=hlt x (by simp);have e3:(A++x::(B++x::C))++[s]=A++x::(B++x::(C++[s])):=by simp
    rw[e3,im,im T B]
    have q1:=hno (B.length+1) (by omega) x (B++[x]) hx ⟨by simp,fun y hy=>hlt y (by
      simp only[ZH,ZK,ZC]at hy ⊢
      rcases hy with z | z
      . exact .inl (.inr (.inr (.inl z)))
      . exact .inl (.inr (.inl (by simpa using z)))),vo _ _ _⟩
    have q2:=hno (A.length+1+(C.length+1)) (by omega) s (A++x::(C++[s])) hs ⟨by simp;omega,fun y hy=>hlt y (by
      simp only[ZH,ZK,ZC]at hy ⊢
      rcases hy with z | z | z | z
      . exact .inl (.inl z)
      . exact .inl (.inr (.inl z))
      . exact .inl (.inr (.inr (.inr (.inr z))))
      . exact .inr (by simpa using z)),by rw[zao,vo]⟩
    rw[im]at q2;omega
theorem few{n:Nat}:∀{l:List Nat},l.Nodup->(∀x∈l,x<n)->l.length<=n:=by
  induction n with
  | zero =>
    intro l _ h
    cases l with
    | nil=>exact Zm _
    | cons a r=>exact absurd (h a ZA) (YH _)
  | succ n ih =>
    intro l hd h
    have q:=ih (l:=l.erase n) (hd.erase n) fun x hx=>by
      have h1:=(List.Nodup.mem_erase_iff hd).mp hx;have h2:=h x h1.2;have h3:=h1.1;omega
    have z:=List.length_erase (a:=n) (l:=l)
    split at z <;> omega
theorem NoNeg.all{T:Nat->Nat->Int}{n:Nat}(h:∀j,j<=n->NoNeg T n j):∀k,NoNeg T n k:=by
  intro k
  induction k using Nat.strongRecOn with
  | ind k ih =>
    by_cases hk:k<=n
    . exact h k hk
    . intro s ws hs hw
      refine parts hs (by omega) hw (fun hd => ?_) ih;have hl:(s::ws.dropLast).length=k:=by rw[ZM,List.length_dropLast,hw.len];omega
      have:=few hd (fun x hx=>by
        rcases ZK.mp hx with z | z
        . rw[z];exact hs
        . exact hw.lt x (List.dropLast_subset _ z))
      omega
def rnd(T:Nat->Nat->Int):List Nat->Int
  | []=>0
  | a::ws=>wk T a (ws++[a])
structure RingA(T:Nat->Nat->Int)(n:Nat)(c:List Nat):Prop where
  two:2<=c.length
  nd:c.Nodup
  lt:∀x∈c,x<n
  neg:rnd T c<0
  few:∀j,j<c.length->NoNeg T n j
theorem RingA.of{T:Nat->Nat->Int}{n k s:Nat}{ws:List Nat}(h0:∀t,T t t=0)(hs:s<n)(h:Wk n k s s ws)(hneg:wk T s ws<0)(hno:∀j,j<k->NoNeg T n j):RingA T n ((s::ws).dropLast):=by
  have hk:2<=k:=by
    rcases Nat.lt_or_ge k 2 with z | z
    . exfalso
      have:k=0\/k=1:=by omega
      rcases this with rfl | rfl
      . have:=NoNeg.zero T n s ws hs h;omega
      . have:=NoNeg.one h0 n s ws hs h;omega
    . exact z
  obtain⟨w,r,rfl⟩:∃w r,ws=w::r:=by
    cases ws with
    | nil=>have:=h.len;simp at this;omega
    | cons w r=>exact⟨w,r,rfl⟩
  have e0:(s::w::r).dropLast=s::(w::r).dropLast:=rfl;have e1:=u6 r w;have e2:lst w r=s:=h.to;rw[e2]at e1;rw[e0];have hl:(s::(w::r).dropLast).length=k:=by rw[ZM,List.length_dropLast,h.len];omega
  refine⟨by rw[hl];exact hk,Classical.byContradiction fun hd => ?_,fun x hx => ?_,?_,fun j hj=>hno j (by rw[hl]at hj;exact hj)⟩
  . have:=parts hs (by omega) h hd hno
    omega
  . rcases ZK.mp hx with z | z
    . rw[z];exact hs
    . exact h.lt x (List.dropLast_subset _ z)
  . show wk T s ((w::r).dropLast++[s])<0
    rw[<-e1];exact hneg
theorem NoNeg.rnd{T:Nat->Nat->Int}{n k:Nat}(h:NoNeg T n k){c:List Nat}(hl:c.length=k)(hc:∀x∈c,x<n):0<=rnd T c:=by
  cases c with
  | nil=>exact YD _
  | cons a ws =>
    exact h a (ws++[a]) (hc a ZA) ⟨by simpa using hl,fun x hx=>by
      rcases ZH.mp hx with z | z
      . exact hc x (Zv _ z)
      . rw[ZC.mp z];exact hc a ZA,vo _ _ _⟩
theorem zgo:∀(ws:List Nat) (a:Nat),lst a ws=di a ws
  | [],_=>rfl
  | w::ws,_=>zgo ws w
def WalkAt(H:Hp)(v:V)(T:Nat->Nat->Int)(s:Nat)(ws:List Nat):Prop:=∃p l,v=.ref p/\H p=some (.tup [.int (wk T s ws),.ref l])/\H l=some (.lst ((nI (s::ws)).map V.int))
def RowAt(H:Hp)(v:V)(T:Nat->Nat->Int)(n k s:Nat):Prop:=∃r xs,v=.ref r/\H r=some (.lst xs)/\xs.length=n/\∀t,t<n->∃x ws,xs[t]? = some x/\WalkAt H x T s ws/\Least T n k s t ws
def RowsAt(H:Hp)(v:V)(T:Nat->Nat->Int)(n k:Nat):Prop:=∃r xs,v=.ref r/\H r=some (.lst xs)/\xs.length=n/\∀s,s<n->∃x,xs[s]? = some x/\RowAt H x T n k s
theorem WalkAt.mono{H H':Hp}{v:V}{T:Nat->Nat->Int}{s:Nat}{ws:List Nat}(S:Same H H')(h:WalkAt H v T s ws):WalkAt H' v T s ws:=by
  obtain⟨p,l,e,h1,h2⟩:=h;exact⟨p,l,e,S _ _ h1,S _ _ h2⟩
theorem RowAt.mono{H H':Hp}{v:V}{T:Nat->Nat->Int}{n k s:Nat}(S:Same H H')(h:RowAt H v T n k s):RowAt H' v T n k s:=by
  obtain⟨r,xs,e,h1,h2,h3⟩:=h
  exact⟨r,xs,e,S _ _ h1,h2,fun t ht=>by
    obtain⟨x,ws,e1,e2,e3⟩:=h3 t ht
    exact⟨x,ws,e1,e2.mono S,e3⟩⟩
theorem RowsAt.mono{H H':Hp}{v:V}{T:Nat->Nat->Int}{n k:Nat}(S:Same H H')(h:RowsAt H v T n k):RowsAt H' v T n k:=by
  obtain⟨r,xs,e,h1,h2,h3⟩:=h
  exact⟨r,xs,e,S _ _ h1,h2,fun s hs=>by
    obtain⟨x,e1,e2⟩:=h3 s hs
    exact⟨x,e1,e2.mono S⟩⟩
def RowPre(H0:Hp)(T:Nat->Nat->Int)(n k s:Nat)(i:Nat)(ys:List V)(H2:Hp):Prop:=Same H0 H2/\ys.length=i/\∀t,t<i->∃x ws,ys[t]? = some x/\WalkAt H2 x T s ws/\Least T n k s t ws
theorem RowPre.snoc{H0 H2 H3:Hp}{T:Nat->Nat->Int}{n k s i:Nat}{ys:List V}{x:V}{ws:List Nat}(h:RowPre H0 T n k s i ys H2)(S:Same H2 H3)(hx:WalkAt H3 x T s ws)(hl:Least T n k s i ws):RowPre H0 T n k s (i+1) (ys++[x]) H3:=by
  obtain⟨h1,h2,h3⟩:=h;refine⟨h1.trans S,by rw[Zo,h2];rfl,fun t ht => ?_⟩
  by_cases e:t<i
  . obtain⟨y,us,e1,e2,e3⟩:=h3 t e
    exact⟨y,us,by rw[Zg (by omega)];exact e1,e2.mono S,e3⟩
  . have:t=i:=by omega
    subst this;exact⟨x,ws,by rw[Zf (by omega),h2];simp,hx,hl⟩
theorem RowPre.done{H0 H2:Hp}{T:Nat->Nat->Int}{n k s:Nat}{ys:List V}{l:Addr}(h:RowPre H0 T n k s n ys H2)(hl:H2 l=none):Same H0 (upd H2 l (.lst ys))/\RowAt (upd H2 l (.lst ys)) (.ref l) T n k s:=by
  obtain⟨h1,h2,h3⟩:=h;have S:Same H2 (upd H2 l (.lst ys)):=Same.upd (Same.refl _) hl;refine⟨h1.trans S,l,ys,rfl,zd,h2,fun t ht => ?_⟩;obtain⟨y,us,e1,e2,e3⟩:=h3 t ht;exact⟨y,us,e1,e2.mono S,e3⟩
def RowsPre(H0:Hp)(T:Nat->Nat->Int)(n k:Nat)(i:Nat)(ys:List V)(H2:Hp):Prop:=Same H0 H2/\ys.length=i/\∀t,t<i->∃x,ys[t]? = some x/\RowAt H2 x T n k t
theorem RowsPre.snoc{H0 H2 H3:Hp}{T:Nat->Nat->Int}{n k i:Nat}{ys:List V}{x:V}(h:RowsPre H0 T n k i ys H2)(S:Same H2 H3)(hx:RowAt H3 x T n k i):RowsPre H0 T n k (i+1) (ys++[x]) H3:=by
  obtain⟨h1,h2,h3⟩:=h;refine⟨h1.trans S,by rw[Zo,h2];rfl,fun t ht => ?_⟩
  by_cases e:t<i
  . obtain⟨y,e1,e2⟩:=h3 t e
    exact⟨y,by rw[Zg (by omega)];exact e1,e2.mono S⟩
  . have:t=i:=by omega
    subst this;exact⟨x,by rw[Zf (by omega),h2];simp,hx⟩
theorem RowsPre.done{H0 H2:Hp}{T:Nat->Nat->Int}{n k:Nat}{ys:List V}{l:Addr}(h:RowsPre H0 T n k n ys H2)(hl:H2 l=none):Same H0 (upd H2 l (.lst ys))/\RowsAt (upd H2 l (.lst ys)) (.ref l) T n k:=by
  obtain⟨h1,h2,h3⟩:=h;have S:Same H2 (upd H2 l (.lst ys)):=Same.upd (Same.refl _) hl;refine⟨h1.trans S,l,ys,rfl,zd,h2,fun t ht => ?_⟩;obtain⟨y,e1,e2⟩:=h3 t ht;exact⟨y,e1,e2.mono S⟩
structure Gd(K:Fg)(H:Hp)(g:Addr)(rows:List (List Int))(n:Nat):Prop where
  ex:∃as,GridL K H g as rows/\as.length=n
  sq:zck rows n
  n8:n<=8
theorem Gd.mono{K:Fg}{H H':Hp}{g:Addr}{rows:List (List Int)}{n:Nat}(S:Same H H')(G:Gd K H g rows n):Gd K H' g rows n:=by
  obtain⟨as,h1,h2⟩:=G.ex;exact⟨⟨as,GridL.mono S h1,h2⟩,G.sq,G.n8⟩
theorem jg{K:Fg}{H:Hp}{g:Addr}{rows:List (List Int)}{n s t:Nat}{Q:VK}{E:XK}(G:Gd K H g rows n)(hs:s<n)(ht:t<n)(q:Q (.int (z8 rows s t)) H):kx K [.ref g,.int s,.int t] H Q E:=by
  obtain⟨as,h1,h2⟩:=G.ex;obtain⟨ns,e1,l1⟩:=G.sq t ht;exact⟨g,as,rows,s,t,ns,_,_,rfl,h1,e1,ig e1 (by omega),ig e1 (by omega),q⟩
def lc:Sp:=fun vs H Q _=>∃(p:Addr) (i:Int) (l:V),vs=[.ref p]/\H p=some (.tup [.int i,l])/\Q (.int i) H
def ef:Sp:=fun vs H Q _=>∃(p:Addr) (i:Int) (l:V),vs=[.ref p]/\H p=some (.tup [.int i,l])/\Q l H
def spOne(K:Fg):Sp:=fun vs H Q _=>∃(g:Addr) (rows:List (List Int)) (n s:Nat),vs=[.ref g,.int s]/\Gd K H g rows n/\s<n/\∀H' v,Same H H'->RowAt H' v (z8 rows) n 1 s->Q v H'
def zfh(K:Fg):Sp:=fun vs H Q _=>∃(g:Addr) (rows:List (List Int)) (v:V) (n k s t:Nat),vs=[.ref g,v,.int t]/\Gd K H g rows n/\RowAt H v (z8 rows) n k s/\t<n/\s<n/\0<k/\k<=100 /\
  ∀H' x ws,Same H H'->WalkAt H' x (z8 rows) s ws->Least (z8 rows) n (k+1) s t ws->Q x H'
def zi1(K:Fg):Sp:=fun vs H Q _=>∃(g:Addr) (rows:List (List Int)) (v:V) (n k s:Nat),vs=[.ref g,v]/\Gd K H g rows n/\RowAt H v (z8 rows) n k s/\s<n/\0<k/\k<=100 /\
  ∀H' v',Same H H'->RowAt H' v' (z8 rows) n (k+1) s->Q v' H'
def zcr:Sp:=fun vs H Q _=>∃(T:Nat->Nat->Int) (v:V) (n k:Nat),vs=[v]/\RowsAt H v T n k/\0<k/\n<=8/\(∀H',Same H H'->NoNeg T n k->Q .non H') /\
  ∀H' s ws l,Same H H'->H' l=some (.lst ((nI ((s::ws).dropLast)).map V.int))->s<n->Wk n k s s ws->wk T s ws<0->Q (.ref l) H'
def zda(K:Fg):Sp:=fun vs H Q _=>∃(g:Addr) (rows:List (List Int)) (n:Nat),vs=[.ref g]/\Gd K H g rows n/\0<n/\(∀H',Same H H'->(∀j,j<=n->NoNeg (z8 rows) n j)->Q .non H') /\
  ∀H' l c,Same H H'->H' l=some (.lst ((nI c).map V.int))->RingA (z8 rows) n c->Q (.ref l) H'
section
variable{P:Program}{w:World}{K:Fg}{mg:Str->Option Value}{base:Heap}
theorem wo (D:zc K mg "total_of" mj ["walk"]):FnAt P w K mg base "total_of" 1 ["walk"] lc:=by
  refine FnAt.of D zd8 (fun vs H Q E h => ?_) (fun f cdv A outer s H vs Q E hr h => ?_)
  . obtain⟨p,i,l,rfl,_⟩:=h
    rfl
  . obtain⟨p,i,l,rfl,hp,q⟩:=h
    refine⟨_,(@zh _ _ _ (@zm _ _ _ _ (@z0 _ _ _ _ _ _ _ yh (pv 0) (@zg _ _ _ _) (fun _ _=>rfl)))),?_⟩;rw[show start ["walk"] [V.ref p]=[some (V.ref p)] from rfl];simp only[zf,ze,↓reduceIte];exact⟨_,.of hp,_,zy (j:=0) rfl,q⟩
theorem rp (D:zc K mg "words_of" mm ["walk"]):FnAt P w K mg base "words_of" 1 ["walk"] ef:=by
  refine FnAt.of D zd0 (fun vs H Q E h => ?_) (fun f cdv A outer s H vs Q E hr h => ?_)
  . obtain⟨p,i,l,rfl,_⟩:=h
    rfl
  . obtain⟨p,i,l,rfl,hp,q⟩:=h
    refine⟨_,(@zh _ _ _ (@zm _ _ _ _ (@z0 _ _ _ _ _ _ _ yh (pv 0) (@zg _ _ _ _) (fun _ _=>rfl)))),?_⟩;rw[show start ["walk"] [V.ref p]=[some (V.ref p)] from rfl];simp only[zf,ze,↓reduceIte];exact⟨_,.of hp,_,zy (j:=1) rfl,q⟩
theorem u0 (B:Bt mg) (u8:FnAt P w K mg base "turn" 1 ["grid", "s", "t"] (kx K)) (D:zc K mg "walks_of_one_turn" vq ["grid", "s"]):FnAt P w K mg base "walks_of_one_turn" 2 ["grid", "s"] (spOne K):=by
  refine FnAt.of D iu (fun vs H Q E h => ?_) (fun f cdv A outer s H vs Q E hr h => ?_)
  . obtain⟨g,rows,n,s,rfl,_⟩:=h
    rfl
  . obtain⟨g,rows,n,s,rfl,G,hs,q⟩:=h
    have n8:=G.n8;refine⟨_,(@zh _ _ _ (@zm _ _ _ _ (yg ["t"] ["grid", "s"] rfl (yv rfl B.range (za (zq zt rfl B.len yc (za (pv 0) (@zb _))) (@zb _))) (fun _=>(zn (i:=0) (show(["t", "grid", "s"]:List Str).Nodup by decide +kernel) rfl (Or.inl rfl))) (fun _=>(@z9 _)) (fun _=>(@wg _ _ _ _ _ (@za _ _ _ _ _ (zi u8 (hr.mono (by decide)) rfl (@za _ _ _ _ _ (pv 1) (@za _ _ _ _ _ (pv 2) (@za _ _ _ _ _ (pv 0) (@zb _) (yd nofun)) (yd nofun)) (yd nofun))) (@za _ _ _ _ _ (@w9 _ _ _ _ (@za _ _ _ _ _ (pv 2) (@za _ _ _ _ _ (pv 0) (@zb _) (yd nofun)) (yd nofun))) (@zb _) (yd nofun)) (yd nofun)))) rfl (by decide +kernel) rfl rfl))),?_⟩;rw[show start ["grid", "s"] [V.ref g,V.int s]=[some (V.ref g),some (V.int s)] from rfl];simp only[zf,ze,↓reduceIte];obtain⟨as,h1,h2⟩:=G.ex;refine⟨_,.inl h1.1,?_⟩;rw[Za,h2];refine⟨by omega,by omega,fun d => ?_⟩;rw[Zw];refine wp (RowPre H (z8 rows) n 1 s) ⟨Same.refl _,rfl,fun t ht=>by omega⟩ ?_ ?_ ?_
    . rintro i ys H' hi h
      rw[h.2.1];exact Zd hi (Zd n8 (by decide))
    . rintro i ys H' hi h
      simp only[zf,ze,↓reduceIte];refine jg (G.mono h.1) hs hi ?_;refine⟨by show 2<=sizeLine;decide,fun l hl=>⟨by show 2<=sizeLine;decide,fun p hp => ?_⟩⟩;have S1:Same H' (upd H' l (.lst [V.int s,V.int i])):=Same.upd (Same.refl _) hl;have S2:Same (upd H' l (.lst [V.int s,V.int i])) (upd (upd H' l (.lst [V.int s,V.int i])) p (.tup [V.int (z8 rows s i),V.ref l])):=Same.upd (Same.refl _) hp;refine h.snoc (ws:=[i]) (S1.trans S2) ⟨p,l,rfl,?_,S2 _ _ zd⟩ (Least.one _ hi);rw[zd]
      show _=some (HO.tup [V.int (z8 rows s i+0),V.ref l])
      rw[Int.add_zero]
    . rintro ys H' h l hl
      obtain⟨S,R⟩:=h.done hl;exact q _ _ S R
end
theorem zfs(ws:List Nat)(t:Nat):(nI ws).map V.int++[V.int t]=(nI (ws++[t])).map V.int:=by simp[nI]
theorem zkx(xs:List V):cutV xs none (some (-1))=xs.dropLast:=by
  unfold cutV;rw[HT.sIx_none,Xd,Nat.sub_zero,YU]
  congr 1
  unfold HT.sIx;simp;omega
theorem zef(ws:List Nat):((nI ws).map V.int).dropLast=(nI ws.dropLast).map V.int:=by
  rw[YU,YU,nI,nI,<-List.map_take,<-List.map_take];simp
theorem zgl{H:Hp}{T:Nat->Nat->Int}{n k s:Nat}{xs:List V}(h:∀t,t<n->∃x ws,xs[t]? = some x/\WalkAt H x T s ws/\Least T n k s t ws) :
    ∃f:Nat->List Nat,∀t,t<n->Least T n k s t (f t)/\∀x,xs[t]? = some x->WalkAt H x T s (f t):=by
  refine⟨fun t=>if ht:t<n then Classical.choose (Classical.choose_spec (h t ht)) else [],fun t ht => ?_⟩;have z:=Classical.choose_spec (Classical.choose_spec (h t ht));simp only[ht,dif_pos];refine⟨z.2.2,fun x hx => ?_⟩;rw[z.1]at hx;cases hx;exact z.2.1
def zev(K:Fg):Sp:=fun vs H Q _=>∃(g l:Addr) (rows:List (List Int)) (ts:List Int) (n t:Nat),vs=[.ref g,.ref l,.int t]/\Gd K H g rows n/\0<n/\SqL K H l (ts.map V.int)/\ts.length=n/\t<n/\∀H' m,Same H H'->Q (.int m) H'
def zgq(H:Hp)(i:Nat)(ys:List V)(H':Hp):Prop:=Same H H'/\∃ns:List Int,ns.length=i/\ys=ns.map V.int
def HonA(rows:List (List Int))(ps:List Int)(n:Nat):Prop:=∀t s:Nat,t<n->s<n->gcA rows t s-gcA rows t t<=ps.getD s 0-ps.getD t 0
def spHas(K:Fg):Sp:=fun vs H Q _=>∃(g:Addr) (rows:List (List Int)) (n:Nat),vs=[.ref g]/\Gd K H g rows n/\0<n/\∀H' (b:Bool),Same H H'->(b=true->∃ps:List Int,HonA rows ps n)->Q (.bl b) H'
def PvTotH(H:Hp)(g:Addr)(n:Nat)(i:Nat)(σ:L2.St)(H':Hp):Prop:=Same H H'/\∃(l:Addr) (ts:List Int) (v:Option V),H' l=some (.lst (ts.map V.int))/\ts.length=n/\σ=[some (.ref g),some (.ref l),v]
theorem zfe{rows:List (List Int)}{ps:List Int}{n:Nat}(h:HonA rows ps n):∀(ws:List Nat) (s:Nat),s<n->(∀x∈ws,x<n)->ps.getD (lst s ws) 0-ps.getD s 0<=wk (z8 rows) s ws
  | [],s,_,_=>by show ps.getD s 0-ps.getD s 0<=0;omega
  | w::ws,s,hs,hw=>by
    have hw':=hw w ZA;have h1:=zfe h ws w hw' fun x hx=>hw x (Zv _ hx)
    have h2:=h w s hw' hs
    show ps.getD (lst w ws) 0-ps.getD s 0<=z8 rows s w+wk (z8 rows) w ws
    unfold z8;unfold z8 at h1;omega
theorem HonA.no{rows:List (List Int)}{ps:List Int}{n:Nat}(h:HonA rows ps n)(j:Nat):NoNeg (z8 rows) n j:=fun s ws hs W=>by
  have:=zfe h ws s hs W.lt;rw[W.to]at this;omega
section
variable{P:Program}{w:World}{K:Fg}{mg:Str->Option Value}{base:Heap}
theorem rj (B:Bt mg) (u8:FnAt P w K mg base "turn" 1 ["grid", "s", "t"] (kx K)) (wo:FnAt P w K mg base "total_of" 1 ["walk"] lc) (D:zc K mg "least_to" qi ["grid", "walks", "t"]):FnAt P w K mg base "least_to" 3 ["grid", "walks", "t"] (zfh K):=by
  refine FnAt.of D sc_least_to (fun vs H Q E h => ?_) (fun f cdv A outer s H vs Q E hr h => ?_)
  . obtain⟨g,rows,v,n,k,s,t,rfl,_⟩:=h
    rfl
  . obtain⟨g,rows,v,n,k,s,t,rfl,G,R,ht,hs,hk,hk2,q⟩:=h
    have n8:=G.n8;obtain⟨r,xs,rfl,hr1,hlen,hall⟩:=R;obtain⟨fw,hfw⟩:=zgl hall;refine⟨_,(@zj _ _ _ _ _ (ux (i:=3) ["total", "words"] ["grid", "walks", "t", "longer"] sc_least_to.nd rfl rfl rfl (@yk _ _ _ _ (pv 1)) (fun _=>(si rfl (yx (zn (i:=0) (show(["total", "words", "grid", "walks", "t", "longer"]:List Str).Nodup by decide +kernel) rfl (Or.inl rfl)) (yx (zn (i:=1) (show(["total", "words", "grid", "walks", "t", "longer"]:List Str).Nodup by decide +kernel) rfl (Or.inl rfl)) (@uw _))))) (fun _=>(@z9 _)) (fun _=>(@wg _ _ _ _ _ (za (@zl _ _ _ _ _ _ _ _ yo (pv 0) (zi u8 (hr.mono (by decide)) rfl (za (pv 2) (za (@z0 _ _ _ _ _ _ _ yf (pv 1) (@bx _ _ _ _ _ _ fm (@zg _ _ _ _)) (fun _ _=>rfl)) (za (pv 4) (@zb _)))))) (za (@zl _ _ _ _ _ _ _ _ zc2 (pv 1) (@w9 _ _ _ _ (za (pv 4) (@zb _)))) (@zb _))))) rfl (by decide +kernel) rfl rfl rfl) (@zh _ _ _ (@zm _ _ _ _ (zff wo (hr.mono (by decide)) rfl rfl B.min rfl (za (pv 3) (@zb _)))))),?_⟩;rw[show start ["grid", "walks", "t", "longer"] [V.ref g,V.ref r,V.int t]=[some (V.ref g),some (V.ref r),some (V.int t),none] from rfl]
    (try dsimp only[xp,e_C,e_op,e_rI,xq,xt,x6,xx,x9,y4,e_B,x0,e_or,wb,x5,x8,y9,xw,y3,xz,xu,xy,yi,xr,y0,wc,xv,y7,e_CB,e_BM,y8,e_iL,wa,y6,cxK,noxK,xc,yz,yl]);(try simp only[zf,ze,↓reduceIte])
    refine⟨⟨_,.of hr1⟩,fun d => ?_⟩;refine yu (xs:=xs) (fun i ys H2=>Same H H2/\ys.length=i/\∀u,u<i->∃x,ys[u]? = some x/\WalkAt H2 x (z8 rows) s (fw u++[t])) ⟨Same.refl _,rfl,fun u hu=>by omega⟩ ?_ ?_ ?_
    . rintro i ys H2 hi ⟨S,hl,_⟩
      exact⟨by rw[hl];rw[hlen]at hi;exact Zd hi (Zd n8 (by decide)),S.seq (.of hr1)⟩
    . rintro i x ys H2 hx ⟨S,hl,hy⟩
      have hi:i<n:=by rw[<-hlen];exact(Zc.mp hx).1
      obtain⟨hL,hW⟩:=hfw i hi;obtain⟨p,l,rfl,hp,hl1⟩:=hW x hx;have hp2:=S _ _ hp;have hl2:=S _ _ hl1;have hto:=hL.w.to;rw[zgo]at hto;simp only[zf,ze,↓reduceIte];refine⟨_,.of hp2,rfl,?_⟩;simp only[zf,ze,↓reduceIte];refine⟨_,.of hl2,_,zex s (fw i),?_⟩;rw[hto];refine jg (G.mono S) hi ht ?_;simp only[zf,ze,↓reduceIte];refine⟨by show 1<=sizeLine;decide,fun b hb => ?_⟩;have S1:Same H2 (upd H2 b (.lst [V.int t])):=Same.upd (Same.refl _) hb;refine⟨_,S1 _ _ hl2,_,zd,?_,fun c hc=>⟨by show 2<=sizeLine;decide,fun e he => ?_⟩⟩
      . have:=hL.w.len
        simp only[nI,Za,ZM,Yq,this];exact Zd (show k+1+1<=102 by omega) (by decide)
      . have S2:Same (upd H2 b (.lst [V.int t])) (upd (upd H2 b (.lst [V.int t])) c (.lst ((nI (s::fw i)).map V.int++[V.int t]))):=Same.upd (Same.refl _) hc
        have S3:=Same.upd (o:=.tup [V.int (wk (z8 rows) s (fw i)+z8 rows i t),V.ref c]) (Same.refl (upd (upd H2 b (.lst [V.int t])) c (.lst ((nI (s::fw i)).map V.int++[V.int t])))) he;refine⟨S.trans (S1.trans (S2.trans S3)),by simp[hl],fun u hu => ?_⟩
        by_cases eu:u<i
        . obtain⟨x,e1,e2⟩:=hy u eu
          exact⟨x,by rw[Zg (by omega)];exact e1,e2.mono (S1.trans (S2.trans S3))⟩
        . have:u=i:=by omega
          subst this;refine⟨.ref e,by rw[Zf (by omega),hl];simp,e,c,rfl,?_,?_⟩
          . rw[zd,uy,hL.w.to]
          . exact S3 _ _ (by rw[zd,zfs];rfl)
    . rintro ys H2 ⟨S,hl,hy⟩ lo hlo
      rw[hlen]at hl hy;have S1:Same H2 (upd H2 lo (.lst ys)):=Same.upd (Same.refl _) hlo;refine⟨ys,.of zd,by omega,fun u=>wk (z8 rows) s (fw u++[t]),fun i x hx => ?_,fun i x hx hm => ?_⟩
      . have hi:i<n:=by rw[<-hl];exact(Zc.mp hx).1
        obtain⟨x',e1,p,l,e2,hp,hl1⟩:=hy i hi;rw[hx]at e1;cases e1;subst e2;exact⟨p,_,_,rfl,S1 _ _ hp,rfl,rfl⟩
      . have hi:i<n:=by rw[<-hl];exact(Zc.mp hx).1
        obtain⟨x',e1,hw⟩:=hy i hi;rw[hx]at e1;cases e1;refine q _ _ _ (S.trans S1) (hw.mono S1) (Least.more ht fw (fun u hu=>(hfw u hu).1) hk hi fun u hu => ?_);have z:wk (z8 rows) s (fw i++[t])<=wk (z8 rows) s (fw u++[t]):=(hm u (by omega)).1;rw[uy,uy,(hfw i hi).1.w.to,(hfw u hu).1.w.to]at z;exact z
theorem u5 (B:Bt mg) (rj:FnAt P w K mg base "least_to" 3 ["grid", "walks", "t"] (zfh K)) (D:zc K mg "lengthened" u9 ["grid", "walks"]):FnAt P w K mg base "lengthened" 4 ["grid", "walks"] (zi1 K):=by
  refine FnAt.of D gy (fun vs H Q E h => ?_) (fun f cdv A outer s H vs Q E hr h => ?_)
  . obtain⟨g,rows,v,n,k,s,rfl,_⟩:=h
    rfl
  . obtain⟨g,rows,v,n,k,s,rfl,G,R,hs,hk,hk2,q⟩:=h
    have n8:=G.n8;refine⟨_,(@zh _ _ _ (@zm _ _ _ _ (yg ["t"] ["grid", "walks"] rfl (yv rfl B.range (za (zq zt rfl B.len yc (za (pv 0) (@zb _))) (@zb _))) (fun _=>(zn (i:=0) (show(["t", "grid", "walks"]:List Str).Nodup by decide +kernel) rfl (Or.inl rfl))) (fun _=>(@z9 _)) (fun _=>(zi rj (hr.mono (by decide)) rfl (za (pv 1) (za (pv 2) (za (pv 0) (@zb _)))))) rfl (by decide +kernel) rfl rfl))),?_⟩;rw[show start ["grid", "walks"] [V.ref g,v]=[some (V.ref g),some v] from rfl];simp only[zf,ze,↓reduceIte];obtain⟨as,h1,h2⟩:=G.ex;refine⟨_,.inl h1.1,?_⟩;rw[Za,h2];refine⟨by omega,by omega,fun d => ?_⟩;rw[Zw];refine wp (RowPre H (z8 rows) n (k+1) s) ⟨Same.refl _,rfl,fun t ht=>by omega⟩ ?_ ?_ ?_
    . rintro i ys H' hi h
      rw[h.2.1];exact Zd hi (Zd n8 (by decide))
    . rintro i ys H' hi h
      simp only[zf,ze,↓reduceIte];exact⟨g,rows,v,n,k,s,i,rfl,G.mono h.1,R.mono h.1,hi,hs,hk,hk2,fun H2 x ws S1 hw hl=>h.snoc S1 hw hl⟩
    . rintro ys H' h l hl
      obtain⟨S,R⟩:=h.done hl;exact q _ _ S R
theorem uz (B:Bt mg) (wo:FnAt P w K mg base "total_of" 1 ["walk"] lc) (rp:FnAt P w K mg base "words_of" 1 ["walk"] ef) (D:zc K mg "closed_below_zero" vt ["rows"]):FnAt P w K mg base "closed_below_zero" 2 ["rows"] zcr:=by
  refine FnAt.of D sc_closed_below_zero (fun vs H Q E h => ?_) (fun f cdv A outer s H vs Q E hr h => ?_)
  . obtain⟨T,v,n,k,rfl,_⟩:=h
    rfl
  . obtain⟨T,v,n,k,rfl,⟨r,xs,rfl,hr1,hlen,hall⟩,hk,n8,q0,q1⟩:=h
    refine⟨_,(@zj _ _ _ _ _ (we PassesOwn.never rfl (gz rfl B.enumerate (za (pv 0) (@zb _))) (si rfl (yx (zn (i:=1) sc_closed_below_zero.nd rfl (Or.inl rfl)) (yx (zn (i:=2) sc_closed_below_zero.nd rfl (Or.inl rfl)) (@uw _)))) (@zh _ _ _ (@xg _ _ _ _ _ _ _ _ (@yn _ _ _ _ _ _ _ _ zag (zi wo (hr.mono (by decide)) rfl (za (@z0 _ _ _ _ _ _ _ yf (pv 2) (pv 1) (fun _ _=>rfl)) (@zb _))) (@zg _ _ _ _) (yt _)) (@zh _ _ _ (@zm _ _ _ _ (@re _ _ _ _ _ _ _ _ _ _ zk6 (zi rp (hr.mono (by decide)) rfl (za (@z0 _ _ _ _ _ _ _ yf (pv 2) (pv 1) (fun _ _=>rfl)) (@zb _))) (@qz _) (@tm _ _ _ (@bx _ _ _ _ _ _ fm (@zg _ _ _ _)))))) (@ye _)))) (@zh _ _ _ (@zm _ _ _ _ (@oy _ _ _)))),?_⟩;rw[show start ["rows", "s", "walks"] [V.ref r]=[some (V.ref r),none,none] from rfl];simp only[zf,ze,↓reduceIte];refine⟨⟨_,.of hr1⟩,?_⟩;refine zkp (xs:=xs) (fun i σ H2=>Same H H2/\(∃v1 v2,σ=[some (.ref r),v1,v2])/\∀s,s<i->∀ws,Wk n k s s ws->0<=wk T s ws) ⟨Same.refl _,⟨_,_,rfl⟩,fun s hs=>by omega⟩ ?_ ?_ ?_
    . rintro i σ H2 hi ⟨S,_,_⟩
      exact S.seq (.of hr1)
    . rintro i x σ H2 U hx hU ⟨S,⟨v1,v2,rfl⟩,no⟩
      have hi:i<n:=by rw[<-hlen];exact(Zc.mp hx).1
      obtain⟨x',e1,R⟩:=hall i hi;rw[hx]at e1;cases e1;obtain⟨r2,zs,rfl,hr2,hl2,hz⟩:=R;obtain⟨y,ws,e2,hw,hL⟩:=hz i hi;obtain⟨p,l,rfl,hp,hl1⟩:=hw;have SU:Same H (upd H2 U (.tup [V.int i,V.ref r2])):=Same.upd S (S.free hU);simp only[zf,ze,↓reduceIte];refine⟨_,.of zd,rfl,?_⟩;simp only[zf,ze,↓reduceIte];refine⟨_,.of (SU _ _ hr2),_,zy e2,p,_,_,rfl,SU _ _ hp,?_⟩;simp only[zf,ze,↓reduceIte];refine ite2 (fun h => ?_) (fun h => ?_)
      . refine⟨_,.of (SU _ _ hr2),_,zy e2,p,_,_,rfl,SU _ _ hp,?_⟩
        simp only[zf,ze,↓reduceIte];refine⟨_,.of (SU _ _ hl1),fun b hb => ?_⟩;refine q1 _ i ws b (Same.upd SU (SU.free hb)) ?_ hi hL.w (of_decide_eq_true h);rw[zd,show(-1:Int) = -1 from rfl,zkx,zef]
      . refine⟨SU,fun s hs us hu => ?_⟩
        by_cases e:s<i
        . exact no s e us hu
        . have:s=i:=by omega
          subst this;have z:=hL.least us hu;have:¬wk T s ws<0:=fun y=>h (decide_eq_true y)
          omega
    . rintro σ H2 ⟨S,⟨v1,v2,rfl⟩,no⟩
      simp only[zf,ze,↓reduceIte];exact q0 _ S fun s ws hs hw=>no s (by omega) ws hw
theorem qy (B:Bt mg) (u8:FnAt P w K mg base "turn" 1 ["grid", "s", "t"] (kx K)) (D:zc K mg "after_a_turn" tu ["grid", "totals", "t"]):FnAt P w K mg base "after_a_turn" 2 ["grid", "totals", "t"] (zev K):=by
  refine FnAt.of D av (fun vs H Q E h => ?_) (fun f cdv A outer s H vs Q E hr h => ?_)
  . obtain⟨g,l,rows,ts,n,t,rfl,_⟩:=h
    rfl
  . obtain⟨g,l,rows,ts,n,t,rfl,G,hn,hl,lt,ht,q⟩:=h
    have n8:=G.n8;refine⟨_,(@zh _ _ _ (@zm _ _ _ _ (zq (zhg rfl) rfl B.min zdc (za (yg ["s", "total"] ["grid", "totals", "t"] rfl (gz rfl B.enumerate (za (pv 1) (@zb _))) (fun _=>(si rfl (yx (zn (i:=0) (show(["s", "total", "grid", "totals", "t"]:List Str).Nodup by decide +kernel) rfl (Or.inl rfl)) (yx (zn (i:=1) (show(["s", "total", "grid", "totals", "t"]:List Str).Nodup by decide +kernel) rfl (Or.inl rfl)) (@uw _))))) (fun _=>(@z9 _)) (fun _=>(@zl _ _ _ _ _ _ _ _ yo (pv 1) (zi u8 (hr.mono (by decide)) rfl (za (pv 2) (za (pv 0) (za (pv 4) (@zb _))))))) rfl (by decide +kernel) rfl rfl) (@zb _))))),?_⟩;rw[show start ["grid", "totals", "t"] [V.ref g,V.ref l,V.int t]=[some (V.ref g),some (V.ref l),some (V.int t)] from rfl];simp only[zf,ze,↓reduceIte];refine⟨⟨_,hl⟩,fun d => ?_⟩;refine zja (xs:=ts.map V.int) (zgq H) ⟨Same.refl _,[],rfl,rfl⟩ ?_ ?_ ?_
    . rintro i ys H2 hi ⟨S,ns,ln,rfl⟩
      rw[Za]at hi;exact⟨by rw[Za,ln];exact Zd hi (Zd (show ts.length<=8 by omega) (by decide)),S.seq hl⟩
    . rintro i x ys H2 T hx hT ⟨S,ns,ln,rfl⟩
      obtain⟨y,hy,rfl⟩:=yp hx;have hi:i<n:=by have:=(Zc.mp hy).1;omega
      have S1:Same H2 (upd H2 T (.tup [V.int i,V.int y])):=Same.upd (Same.refl _) hT;simp only[zf,ze,↓reduceIte];refine⟨_,.of zd,rfl,?_⟩;generalize upd H2 T (.tup [V.int i,V.int y])=H3 at *;simp only[zf,ze,↓reduceIte];refine jg (G.mono (S.trans S1)) hi ht ?_;simp only[zf,ze,↓reduceIte];exact⟨S.trans S1,ns++[y+z8 rows i t],by simp[ln],by simp⟩
    . rintro ys H2 ⟨S,ns,ln,rfl⟩ p hp
      rw[Za,lt]at ln;exact⟨_,.of zd,by omega,fun m _ _=>q _ m (S.trans (Same.upd (Same.refl _) hp))⟩
theorem kg (B:Bt mg) (qy:FnAt P w K mg base "after_a_turn" 2 ["grid", "totals", "t"] (zev K)) (l9:FnAt P w K mg base "first_gain" 3 ["grid", "pays"] (spFG K)) (D:zc K mg "has_honest" qf ["grid"]):FnAt P w K mg base "has_honest" 4 ["grid"] (spHas K):=by
  refine FnAt.of D sc_has_honest (fun vs H Q E h => ?_) (fun f cdv A outer s H vs Q E hr h => ?_)
  . obtain⟨g,rows,n,rfl,_⟩:=h
    rfl
  . obtain⟨g,rows,n,rfl,G,hn,q⟩:=h
    have n8:=G.n8;refine⟨_,(@zj _ _ _ _ _ (zw (i:=1) sc_has_honest.nd rfl (Or.inr rfl) (yg ["row"] ["grid", "totals", "size"] rfl (@yk _ _ _ _ (pv 0)) (fun _=>(zn (i:=0) (show(["row", "grid", "totals", "size"]:List Str).Nodup by decide +kernel) rfl (Or.inl rfl))) (fun _=>(@z9 _)) (fun _=>(@zg _ _ _ _)) rfl (by decide +kernel) rfl rfl)) (@zj _ _ _ _ _ (we PassesOwn.never rfl (fb rfl B.range (za (@zg _ _ _ _) (za (@zl _ _ _ _ _ _ _ _ yo (zq zt rfl B.len yc (za (pv 0) (@zb _))) (@zg _ _ _ _)) (@zb _)))) (zn (i:=2) sc_has_honest.nd rfl (Or.inl rfl)) (@zh _ _ _ (zw (i:=1) sc_has_honest.nd rfl (Or.inr rfl) (yg ["t"] ["grid", "totals", "size"] rfl (yv rfl B.range (za (zq zt rfl B.len yc (za (pv 0) (@zb _))) (@zb _))) (fun _=>(zn (i:=0) (show(["t", "grid", "totals", "size"]:List Str).Nodup by decide +kernel) rfl (Or.inl rfl))) (fun _=>(@z9 _)) (fun _=>(zi qy (hr.mono (by decide)) rfl (za (pv 1) (za (pv 2) (za (pv 0) (@zb _)))))) rfl (by decide +kernel) rfl rfl)))) (@zh _ _ _ (@zm _ _ _ _ (@ld _ _ _ _ _ _ _ _ op_isN (zi l9 (hr.mono (by decide)) rfl (za (pv 0) (za (pv 1) (@zb _)))) (@oy _ _ _) (yt _)))))),?_⟩;rw[show start ["grid", "totals", "size"] [V.ref g]=[some (V.ref g),none,none] from rfl]
    (try dsimp only[xp,e_C,e_op,e_rI,xq,xt,x6,xx,x9,y4,e_B,x0,e_or,wb,x5,x8,y9,xw,y3,xz,xu,xy,yi,xr,y0,wc,xv,y7,e_CB,e_BM,y8,e_iL,wa,y6,cxK,noxK,xc,yz,yl]);(try simp only[zf,ze,↓reduceIte])
    obtain⟨as,h1,h2⟩:=G.ex;refine⟨⟨_,h1.1⟩,fun d => ?_⟩;refine yu (xs:=as.map V.ref) (zgq H) ⟨Same.refl _,[],rfl,rfl⟩ ?_ ?_ ?_
    . rintro i ys H2 hi ⟨S,ns,ln,rfl⟩
      rw[Za,h2]at hi;exact⟨by rw[Za,ln];exact Zd hi (Zd n8 (by decide)),S.seq h1.1⟩
    . rintro i x ys H2 hx ⟨S,ns,ln,rfl⟩
      simp only[zf,ze,↓reduceIte];exact⟨S,ns++[0],by simp[ln],by simp⟩
    . rintro ys H2 ⟨S,ns,ln,rfl⟩ p hp
      rw[Za,h2]at ln;have S1:Same H (upd H2 p (.lst (ns.map V.int))):=S.trans (Same.upd (Same.refl _) hp);have p1:upd H2 p (.lst (ns.map V.int)) p=some (.lst (ns.map V.int)):=zd;generalize upd H2 p (.lst (ns.map V.int))=H3 at *;refine⟨_,.inl (S1.seq h1.1),?_⟩;rw[Za,h2];refine⟨by omega,by omega,by omega,by omega,?_⟩;rw[show((n:Int)+1-2).toNat=n-1 by omega];refine vg (PvTotH H g n) ⟨S1,p,ns,_,p1,ln,rfl⟩ ?_ ?_
      . rintro i σ H4 hi ⟨S4,p4,ts,v,hp4,lt,rfl⟩
        simp only[zf,ze,↓reduceIte];refine⟨_,.inl (S4.seq h1.1),?_⟩;rw[Za,h2];refine⟨by omega,by omega,fun d2 => ?_⟩;rw[Zw];refine wp (zgq H4) ⟨Same.refl _,[],rfl,rfl⟩ ?_ ?_ ?_
        . rintro j ys H5 hj ⟨S5,ms,lm,rfl⟩
          rw[Za,lm];exact Zd hj (Zd n8 (by decide))
        . rintro j ys H5 hj ⟨S5,ms,lm,rfl⟩
          simp only[zf,ze,↓reduceIte];exact⟨g,p4,rows,ts,n,j,rfl,G.mono (S4.trans S5),hn,.of (S5 _ _ hp4),lt,hj,fun H6 m S6=>⟨S5.trans S6,ms++[m],by simp[lm],by simp⟩⟩
        . rintro ys H5 ⟨S5,ms,lm,rfl⟩ p5 hp5
          exact⟨S4.trans (S5.trans (Same.upd (Same.refl _) hp5)),p5,ms,_,zd,lm,rfl⟩
      . rintro σ H4 ⟨S4,p4,ts,v,hp4,lt,rfl⟩
        simp only[zf,ze,↓reduceIte];refine⟨g,p4,as,rows,ts,n,rfl,(GridL.mono S4 h1),h2,.of hp4,lt,n8,G.sq,fun h => ?_,fun t s h l hl => ?_⟩
        . exact q H4 true S4 fun _=>⟨ts,fun t s ht hs=>by
            have:=h t s ht hs;unfold jc at this
            omega⟩
        . exact q _ false (S4.trans (Same.upd (Same.refl _) hl)) fun z=>by cases z
theorem fh (B:Bt mg) (kg:FnAt P w K mg base "has_honest" 4 ["grid"] (spHas K)) (u0:FnAt P w K mg base "walks_of_one_turn" 2 ["grid", "s"] (spOne K)) (u5:FnAt P w K mg base "lengthened" 4 ["grid", "walks"] (zi1 K)) (uz:FnAt P w K mg base "closed_below_zero" 2 ["rows"] zcr)
    (D:zc K mg "ring" ar ["grid"]):FnAt P w K mg base "ring" 5 ["grid"] (zda K):=by
  refine FnAt.of D sc_ring (fun vs H Q E h => ?_) (fun f cdv A outer s H vs Q E hr h => ?_)
  . obtain⟨g,rows,n,rfl,_⟩:=h
    rfl
  . obtain⟨g,rows,n,rfl,G0,hn,q00,q10⟩:=h
    have n8:=G0.n8;refine⟨_,(@zj _ _ _ _ _ (@xg _ _ _ _ _ _ _ _ (v6 (zi kg (hr.mono (by decide)) rfl (za (pv 0) (@zb _)))) (@zh _ _ _ (@zm _ _ _ _ (@oy _ _ _))) (@ye _)) (@zj _ _ _ _ _ (ux (i:=1) ["s"] ["grid", "rows", "size", "found"] sc_ring.nd rfl rfl rfl (yv rfl B.range (za (zq zt rfl B.len yc (za (pv 0) (@zb _))) (@zb _))) (fun _=>(zn (i:=0) (show(["s", "grid", "rows", "size", "found"]:List Str).Nodup by decide +kernel) rfl (Or.inl rfl))) (fun _=>(@z9 _)) (fun _=>(zi u0 (hr.mono (by decide)) rfl (za (pv 1) (za (pv 0) (@zb _))))) rfl (by decide +kernel) rfl rfl rfl) (@zj _ _ _ _ _ (we PassesOwn.never rfl (fb rfl B.range (za (@zg _ _ _ _) (za (@zl _ _ _ _ _ _ _ _ yo (zq zt rfl B.len yc (za (pv 0) (@zb _))) (@zg _ _ _ _)) (@zb _)))) (zn (i:=2) sc_ring.nd rfl (Or.inl rfl)) (@zj _ _ _ _ _ (ux (i:=1) ["walks"] ["grid", "rows", "size", "found"] sc_ring.nd rfl rfl rfl (@yk _ _ _ _ (pv 1)) (fun _=>(zn (i:=0) (show(["walks", "grid", "rows", "size", "found"]:List Str).Nodup by decide +kernel) rfl (Or.inl rfl))) (fun _=>(@z9 _)) (fun _=>(zi u5 (hr.mono (by decide)) rfl (za (pv 1) (za (pv 0) (@zb _))))) rfl (by decide +kernel) rfl rfl rfl) (@zj _ _ _ _ _ (zw (i:=3) sc_ring.nd rfl (Or.inl rfl) (zi uz (hr.mono (by decide)) rfl (za (pv 1) (@zb _)))) (@zh _ _ _ (@xg _ _ _ _ _ _ _ _ (@yn _ _ _ _ _ _ _ _ za2 (pv 3) (@oy _ _ _) (yt _)) (@zh _ _ _ (@zm _ _ _ _ (pv 3))) (@ye _)))))) (@zh _ _ _ (@zm _ _ _ _ (@oy _ _ _)))))),?_⟩;rw[show start ["grid", "rows", "size", "found"] [V.ref g]=[some (V.ref g),none,none,none] from rfl]
    (try dsimp only[xp,e_C,e_op,e_rI,xq,xt,x6,xx,x9,y4,e_B,x0,e_or,wb,x5,x8,y9,xw,y3,xz,xu,xy,yi,xr,y0,wc,xv,y7,e_CB,e_BM,y8,e_iL,wa,y6,cxK,noxK,xc,yz,yl]);(try simp only[zf,ze,↓reduceIte])
    refine⟨g,rows,n,rfl,G0,hn,fun H0 hb S0 hHon => ?_⟩;refine⟨hb,rfl,ite2 (fun hy => ?_) fun _ => ?_⟩
    . obtain⟨ps,hps⟩:=hHon hy
      exact q00 H0 S0 fun j _=>hps.no j
    have G:=G0.mono S0;have q0:∀H',Same H0 H'->(∀j,j<=n->NoNeg (z8 rows) n j)->Q .non H':=fun H' S' h=>q00 H' (S0.trans S') h
    have q1:∀H' l c,Same H0 H'->H' l=some (.lst ((nI c).map V.int))->RingA (z8 rows) n c->Q (.ref l) H':=fun H' l c S' h1 h2=>q10 H' l c (S0.trans S') h1 h2
    obtain⟨as,h1,h2⟩:=G.ex;refine⟨_,.inl h1.1,?_⟩;rw[Za,h2];refine⟨by omega,by omega,fun d => ?_⟩;rw[Zw];refine wp (RowsPre H0 (z8 rows) n 1) ⟨Same.refl _,rfl,fun t ht=>by omega⟩ ?_ ?_ ?_
    . rintro i ys H' hi h
      rw[h.2.1];exact Zd hi (Zd n8 (by decide))
    . rintro i ys H' hi h
      simp only[zf,ze,↓reduceIte];exact⟨g,rows,n,i,rfl,G.mono h.1,hi,fun H2 x S1 hR=>h.snoc S1 hR⟩
    . rintro ys H' h l hl
      obtain⟨S,R⟩:=h.done hl;generalize upd H' l (.lst ys)=H1 at *;refine⟨_,.inl (S.seq h1.1),?_⟩;rw[Za,h2];refine⟨by omega,by omega,by omega,by omega,?_⟩;rw[show((n:Int)+1-2).toNat=n-1 by omega];refine vg (fun i σ H2=>Same H0 H2/\(∃v v2 v3,σ=[some (.ref g),some v,v2,v3]/\RowsAt H2 v (z8 rows) n (i+1))/\∀j,j<=i+1->NoNeg (z8 rows) n j) ⟨S,⟨_,_,_,rfl,R⟩,fun j hj => ?_⟩ ?_ ?_
      . have:j=0\/j=1:=by omega
        rcases this with rfl | rfl
        . exact NoNeg.zero _ _
        . exact NoNeg.one (au rows) _
      . rintro i σ H2 hi ⟨S2,⟨v,v2,v3,rfl,⟨r,xs,rfl,hr1,hlen,hall⟩⟩,no⟩
        simp only[zf,ze,↓reduceIte];refine⟨⟨_,.of hr1⟩,fun d2 => ?_⟩;refine yu (xs:=xs) (RowsPre H2 (z8 rows) n (i+1+1)) ⟨Same.refl _,rfl,fun t ht=>by omega⟩ ?_ ?_ ?_
        . rintro j ys H' hj h
          rw[h.2.1];exact⟨Zd hj (Zd (by omega) (show 8<=sizeLine by decide)),h.1.seq (.of hr1)⟩
        . rintro j x ys H' hx h
          have hj:j<n:=by rw[<-hlen];exact(Zc.mp hx).1
          obtain⟨x',e1,R⟩:=hall j hj;rw[hx]at e1;cases e1;simp only[zf,ze,↓reduceIte];exact⟨g,rows,x,n,i+1,j,rfl,G.mono (S2.trans h.1),R.mono h.1,hj,by omega,by omega,fun H3 v' S3 hR=>h.snoc S3 hR⟩
        . rintro ys H' h l hl
          rw[hlen]at h;obtain⟨S3,R3⟩:=h.done hl;generalize upd H' l (.lst ys)=H3 at *;refine⟨z8 rows,.ref l,n,i+2,rfl,R3,by omega,n8,fun H4 S4 hno => ?_,fun H4 s ws b S4 hb hs hw hneg => ?_⟩
          . simp only[zf,ze,↓reduceIte]
            refine⟨S2.trans (S3.trans S4),R3.mono S4,fun j hj => ?_⟩
            by_cases e:j<=i+1
            . exact no j e
            . have:j=i+2:=by omega
              subst this;exact hno
          . simp only[zf,ze,↓reduceIte]
            refine q1 H4 b _ (S2.trans (S3.trans S4)) hb (RingA.of (au rows) hs hw hneg fun j hj=>no j (by omega))
      . rintro σ H2 ⟨S2,⟨v,v2,v3,rfl,_⟩,no⟩
        simp only[zf,ze,↓reduceIte];exact q0 H2 S2 fun j hj=>no j (by omega)
end
structure Rd(T:Nat->Nat->Int)(b:Nat->Int)(S:Nat->Prop)(n k t:Nat)(e:Int×List Nat):Prop where
  ex:∃s ws,e.2=s::ws/\S s/\s<n/\lst s ws=t/\(∀x∈ws,x<n)/\e.1=b s+wk T s ws/\(s::ws).Nodup/\ws.length<=k
def Low(T:Nat->Nat->Int)(b:Nat->Int)(S:Nat->Prop)(n k t:Nat)(i:Int):Prop:=∀s ws,S s->s<n->lst s ws=t->(∀x∈ws,x<n)->ws.length<=k->i<=b s+wk T s ws
structure Rds(T:Nat->Nat->Int)(b:Nat->Int)(S:Nat->Prop)(n k:Nat)(f:Nat->Int×List Nat):Prop where
  rd:∀t,t<n->Rd T b S n k t (f t)
  low:∀t,t<n->Low T b S n k t (f t).1
theorem zfc{n:Nat}:∀(ws:List Nat) (s:Nat),s<n->(∀x∈ws,x<n)->lst s ws<n
  | [],_,h,_=>h
  | w::ws,_,_,h=>zfc ws w (h w ZA) fun x hx=>h x (Zv _ hx)
theorem lst_lt{n:Nat}{ws:List Nat}{s:Nat}(hs:s<n)(h:∀x∈ws,x<n):lst s ws<n:=zfc ws s hs h
theorem back{T:Nat->Nat->Int}{b:Nat->Int}{S:Nat->Prop}{n k i t s:Nat}{ws:List Nat}{m:Int}(no:∀k,NoNeg T n k)(ht:t<n)(hS:S s)(hs:s<n)(hto:lst s ws=i)(hlt:∀x∈ws,x<n)(hk:ws.length<=k)(hl:Low T b S n k t m)(hm:t∈s::ws):m<=b s+wk T s ws+T i t:=by
  have closed:∀C:List Nat,(∀x∈C,x<n)->lst t C=i->0<=wk T t C+T i t:=fun C hC hi=>by
    have:=no (C.length+1) t (C++[t]) ht ⟨by simp,fun x hx=>by
      rcases ZH.mp hx with z | z
      . exact hC x z
      . rw[ZC.mp z];exact ht,vo _ _ _⟩
    rw[uy,hi]at this;exact this
  rcases ZK.mp hm with z | z
  . subst z
    have h1:=hl t [] hS hs rfl (fun x hx=>nomatch hx) (ZE _);have h2:=closed ws hlt hto;have h3:wk T t []=0:=rfl;omega
  . obtain⟨A,C,rfl⟩:=List.append_of_mem z
    have hA:∀x∈A++[t],x<n:=fun x hx=>hlt x (by
      rcases ZH.mp hx with z | z
      . exact ZQ _ z
      . rw[ZC.mp z];simp)
    have h1:=hl s (A++[t]) hS hs (vo _ _ _) hA (by simp at hk ⊢;omega);rw[zao]at hto;have h2:=closed C (fun x hx=>hlt x (Zu _ (Zv _ hx))) hto;rw[im];omega
theorem Rds.step{T:Nat->Nat->Int}{b:Nat->Int}{S:Nat->Prop}{n k:Nat}{f f':Nat->Int×List Nat}(no:∀k,NoNeg T n k)(R:Rds T b S n k f)
    (h:∀t,t<n->∃i,i<n/\(∀u,u<n->(f i).1+T i t<=(f u).1+T u t)/\(((f i).1+T i t<(f t).1/\f' t=((f i).1+T i t,(f i).2++[t]))\/((f t).1<=(f i).1+T i t/\f' t=f t))):Rds T b S n (k+1) f':=by
  refine⟨fun t ht => ?_,fun t ht => ?_⟩
  . obtain⟨i,hi,hm,hc⟩:=h t ht
    rcases hc with ⟨hlt,e⟩ | ⟨_,e⟩
    . obtain⟨s,ws,e1,hS,hs,hto,hw,hv,hd,hk⟩:=(R.rd i hi).ex
      have hn:t∉s::ws:=fun z=>by
        have:=back no ht hS hs hto hw hk (R.low t ht) z;omega
      rw[e];refine⟨s,ws++[t],by rw[e1];rfl,hS,hs,vo _ _ _,fun x hx => ?_,?_,?_,by simp;exact hk⟩
      . rcases ZH.mp hx with z | z
        . exact hw x z
        . rw[ZC.mp z];exact ht
      . show(f i).1+T i t=_
        rw[uy,hto,hv];omega
      . show((s::ws)++[t]).Nodup
        refine Yo.mpr ⟨hd,by simp,fun x hx y hy => ?_⟩;rw[ZC.mp hy]
        rintro rfl
        exact hn hx
    . obtain⟨s,ws,e1,hS,hs,hto,hw,hv,hd,hk⟩:=(R.rd t ht).ex
      rw[e];exact⟨s,ws,e1,hS,hs,hto,hw,hv,hd,by omega⟩
  . obtain⟨i,hi,hm,hc⟩:=h t ht
    have h1:(f' t).1<=(f t).1/\(f' t).1<=(f i).1+T i t:=by
      rcases hc with ⟨hlt,e⟩ | ⟨hlt,e⟩ <;> rw[e]
      . exact⟨by show(f i).1+T i t<=_;omega,YD _⟩
      . exact⟨YD _,hlt⟩
    intro s ws hS hs hto hw hk
    by_cases hk':ws.length<=k
    . have:=R.low t ht s ws hS hs hto hw hk'
      omega
    . obtain⟨w,r,rfl⟩:∃w r,ws=w::r:=by
        cases ws with
        | nil=>simp at hk'
        | cons w r=>exact⟨w,r,rfl⟩
      have e1:=u6 r w;have e2:lst w r=t:=hto;rw[e2]at e1;generalize hp:(w::r).dropLast=p at e1;rw[e1]at hw hk ⊢;have hwp:∀x∈p,x<n:=fun x hx=>hw x (ZQ _ hx)
      have hu:=lst_lt hs hwp;have q1:=R.low (lst s p) hu s p hS hs rfl hwp (by simp at hk;exact hk);have q2:=hm (lst s p) hu;rw[uy];omega
theorem Rds.honest{T:Nat->Nat->Int}{b:Nat->Int}{S:Nat->Prop}{n k:Nat}{f:Nat->Int×List Nat}(no:∀k,NoNeg T n k)(R:Rds T b S n k f)(hk:n<=k+1){s t:Nat}(hs:s<n)(ht:t<n):(f t).1<=(f s).1+T s t:=by
  obtain⟨s0,ws,e1,hS,hs0,hto,hw,hv,hd,hk2⟩:=(R.rd s hs).ex
  by_cases hm:t∈s0::ws
  . have:=back no ht hS hs0 hto hw hk2 (R.low t ht) hm
    omega
  . have hd2:(s0::(ws++[t])).Nodup:=by
      show((s0::ws)++[t]).Nodup
      refine Yo.mpr ⟨hd,by simp,fun x hx y hy => ?_⟩;rw[ZC.mp hy]
      rintro rfl
      exact hm hx
    have hw2:∀x∈ws++[t],x<n:=fun x hx=>by
      rcases ZH.mp hx with z | z
      . exact hw x z
      . rw[ZC.mp z];exact ht
    have hl:=few hd2 (fun x hx=>by
      rcases ZK.mp hx with z | z
      . rw[z];exact hs0
      . exact hw2 x z)
    have:=R.low t ht s0 (ws++[t]) hS hs0 (vo _ _ _) hw2 (by simp at hl ⊢;omega);rw[uy,hto]at this;omega
theorem Rds.one{T:Nat->Nat->Int}{b:Nat->Int}{n:Nat}{f:Nat->Int×List Nat}(h:∀t,t<n->f t=(b t,[t])):Rds T b (fun _=>True) n 0 f:=by
  refine⟨fun t ht=>⟨t,[],by rw[h t ht],trivial,ht,rfl,(fun x hx=>nomatch hx),by rw[h t ht];show b t=b t+0;omega,by simp,Zm _⟩,fun t ht s ws _ hs hto hw hk => ?_⟩
  cases ws with
  | nil =>
    have e:s=t:=hto;subst e;rw[h s ht]
    show b s<=b s+0
    omega
  | cons _ _=>simp at hk
structure WsL(H:Hp)(xs:List V)(fs:List (Int×List Nat×Addr)):Prop where
  len:xs.length=fs.length
  at':∀(t:Nat) e,fs[t]? = some e->∃p,xs[t]? = some (V.ref p)/\H p=some (.tup [.int e.1,.ref e.2.2])/\H e.2.2=some (.lst ((nI e.2.1).map V.int))
theorem WsL.mono{H H':Hp}{xs:List V}{fs:List (Int×List Nat×Addr)}(S:Same H H')(h:WsL H xs fs):WsL H' xs fs:=⟨h.len,fun t e he=>by
  obtain⟨p,a1,a2,a3⟩:=h.at' t e he
  exact⟨p,a1,S _ _ a2,S _ _ a3⟩⟩
theorem WsL.nil{H:Hp}:WsL H [] []:=⟨rfl,fun t e he=>by simp at he⟩
theorem tf{α:Type}{xs:List α}{x y:α}{t:Nat}(h:(xs++[x])[t]? = some y):xs[t]? = some y\/(t=xs.length/\y=x):=by
  by_cases ht:t<xs.length
  . rw[Zg ht]at h
    exact .inl h
  . have ht':xs.length<=t:=ZD.mp ht
    rw[Zf ht']at h
    have h0:t-xs.length=0:=by
      have:=(Zc.mp h).1;simp at this;omega
    rw[h0]at h;simp at h;exact .inr ⟨by omega,h.symm⟩
theorem uo{α:Type}{xs:List α}{y:α}{t:Nat}(h:xs[t]? = some y):t<xs.length:=(Zc.mp h).1
theorem dq{α:Type}{xs:List α}{x d:α}{t:Nat}(h:xs[t]? = some x):xs.getD t d=x:=by rw[Zk,h];rfl
theorem um{α:Type}{xs:List α}{t:Nat}(h:t<xs.length):∃y,xs[t]? = some y:=⟨xs[t],by simp[h]⟩
theorem WsL.snoc{H H':Hp}{xs:List V}{fs:List (Int×List Nat×Addr)}{p l:Addr}{i:Int}{ws:List Nat}(h:WsL H xs fs)(S:Same H H')(hp:H' p=some (.tup [.int i,.ref l]))(hl:H' l=some (.lst ((nI ws).map V.int))):WsL H' (xs++[.ref p]) (fs++[(i,ws,l)]):=by
  refine⟨by simp[h.len],fun t e he => ?_⟩
  rcases tf he with z | ⟨z,rfl⟩
  . obtain⟨q,a1,a2,a3⟩:=h.at' t e z
    exact⟨q,by rw[Zg (uo a1)];exact a1,S _ _ a2,S _ _ a3⟩
  . refine⟨p,?_,hp,hl⟩
    rw[z,Zf (by rw[h.len];exact Zm _),h.len];simp
def Dis(fs:List (Int×List Nat×Addr)):Prop:=∀(t u:Nat) e d,fs[t]? = some e->fs[u]? = some d->e.2.2=d.2.2->t=u
theorem Dis.nil:Dis []:=fun t u e d he=>by simp at he
theorem Dis.snoc{H:Hp}{xs:List V}{fs:List (Int×List Nat×Addr)}{l:Addr}{i:Int}{ws:List Nat}(h:Dis fs)(w:WsL H xs fs)(hl:H l=none):Dis (fs++[(i,ws,l)]):=by
  have old:∀(t:Nat) e,fs[t]? = some e->e.2.2≠l:=fun t e he z=>by
    obtain⟨p,_,_,a3⟩:=w.at' t e he;rw[z,hl]at a3;cases a3
  intro t u e d he hd ee
  rcases tf he with z | ⟨z,rfl⟩ <;> rcases tf hd with z' | ⟨z',rfl⟩
  . exact h t u e d z z' ee
  . exact absurd ee (old t e z)
  . exact absurd ee.symm (old u d z')
  . rw[z,z']
def zf1(fs:List (Int×List Nat×Addr)):Prop:=∀(t:Nat) e,fs[t]? = some e->∃a ws,e.2.1=a::ws/\di a ws=t/\ws.length<=100
structure zjs(T:Nat->Nat->Int)(H:Hp)(fs gs:List (Int×List Nat×Addr))(n:Nat):Prop where
  len:gs.length=n
  dis:Dis gs
  new:∀(t:Nat) e,gs[t]? = some e->H e.2.2=none
  min:∀(t:Nat) e',gs[t]? = some e'->∃i e,fs[i]? = some e/\(∀u d,fs[u]? = some d->e.1+T i t<=d.1+T u t)/\e'.1=e.1+T i t/\e'.2.1=e.2.1++[t]
def zc3(K:Fg):Sp:=fun vs H Q _=>∃(g r:Addr) (rows:List (List Int)) (xs:List V) (fs:List (Int×List Nat×Addr)) (n t:Nat),vs=[.ref g,.ref r,.int t]/\Gd K H g rows n/\H r=some (.lst xs)/\WsL H xs fs/\fs.length=n/\zf1 fs/\t<n /\
  ∀H' p l i e,Same H H'->H l=none->fs[i]? = some e->(∀u d,fs[u]? = some d->e.1+z8 rows i t<=d.1+z8 rows u t)->H' p=some (.tup [.int (e.1+z8 rows i t),.ref l])->H' l=some (.lst ((nI (e.2.1++[t])).map V.int))->Q (.ref p) H'
def zer(K:Fg):Sp:=fun vs H Q _=>∃(g r:Addr) (rows:List (List Int)) (xs:List V) (fs:List (Int×List Nat×Addr)) (n:Nat),vs=[.ref g,.ref r]/\Gd K H g rows n/\H r=some (.lst xs)/\WsL H xs fs/\fs.length=n/\zf1 fs /\
  ∀H' r' ys gs,Same H H'->H' r'=some (.lst ys)->WsL H' ys gs->zjs (z8 rows) H fs gs n->Q (.ref r') H'
def zb9:Sp:=fun vs H Q _=>∃(p q:Addr) (i j:Int) (l m:V),vs=[.ref p,.ref q]/\H p=some (.tup [.int i,l])/\H q=some (.tup [.int j,m])/\(j<i->Q (.ref q) H)/\(i<=j->Q (.ref p) H)
section
variable{P:Program}{w:World}{K:Fg}{mg:Str->Option Value}{base:Heap}
theorem zgx (B:Bt mg) (u8:FnAt P w K mg base "turn" 1 ["grid", "s", "t"] (kx K)) (wo:FnAt P w K mg base "total_of" 1 ["walk"] lc) (D:zc K mg "least_to" qi ["grid", "walks", "t"]):FnAt P w K mg base "least_to" 3 ["grid", "walks", "t"] (zc3 K):=by
  refine FnAt.of D sc_least_to (fun vs H Q E h => ?_) (fun f cdv A outer s H vs Q E hr h => ?_)
  . obtain⟨g,r,rows,xs,fs,n,t,rfl,_⟩:=h
    rfl
  . obtain⟨g,r,rows,xs,fs,n,t,rfl,G,hr1,W,hlen,hend,ht,q⟩:=h
    have n8:=G.n8;have hxl:=W.len;refine⟨_,(@zj _ _ _ _ _ (ux (i:=3) ["total", "words"] ["grid", "walks", "t", "longer"] sc_least_to.nd rfl rfl rfl (@yk _ _ _ _ (pv 1)) (fun _=>(si rfl (yx (zn (i:=0) (show(["total", "words", "grid", "walks", "t", "longer"]:List Str).Nodup by decide +kernel) rfl (Or.inl rfl)) (yx (zn (i:=1) (show(["total", "words", "grid", "walks", "t", "longer"]:List Str).Nodup by decide +kernel) rfl (Or.inl rfl)) (@uw _))))) (fun _=>(@z9 _)) (fun _=>(@wg _ _ _ _ _ (za (@zl _ _ _ _ _ _ _ _ yo (pv 0) (zi u8 (hr.mono (by decide)) rfl (za (pv 2) (za (@z0 _ _ _ _ _ _ _ yf (pv 1) (@bx _ _ _ _ _ _ fm (@zg _ _ _ _)) (fun _ _=>rfl)) (za (pv 4) (@zb _)))))) (za (@zl _ _ _ _ _ _ _ _ zc2 (pv 1) (@w9 _ _ _ _ (za (pv 4) (@zb _)))) (@zb _))))) rfl (by decide +kernel) rfl rfl rfl) (@zh _ _ _ (@zm _ _ _ _ (zff wo (hr.mono (by decide)) rfl rfl B.min rfl (za (pv 3) (@zb _)))))),?_⟩;rw[show start ["grid", "walks", "t", "longer"] [V.ref g,V.ref r,V.int t]=[some (V.ref g),some (V.ref r),some (V.int t),none] from rfl];simp only[zf,ze,↓reduceIte];refine⟨⟨_,.of hr1⟩,fun d => ?_⟩;refine yu (xs:=xs) (fun i ys H2=>Same H H2/\∃gs,WsL H2 ys gs/\gs.length=i/\∀(u:Nat) e',gs[u]? = some e'->H e'.2.2=none/\∃e,fs[u]? = some e/\e'.1=e.1+z8 rows u t/\e'.2.1=e.2.1++[t]) ⟨Same.refl _,[],WsL.nil,rfl,fun u e he=>by simp at he⟩ ?_ ?_ ?_
    . rintro i ys H2 hi ⟨S,gs,W2,hl,_⟩
      exact⟨by rw[W2.len,hl];exact Zd hi (Zd (show xs.length<=8 by omega) (by decide)),S.seq (.of hr1)⟩
    . rintro i x ys H2 hx ⟨S,gs,W2,hl,hy⟩
      have hi:i<n:=by have:=uo hx;omega
      obtain⟨e,he⟩:=um (xs:=fs) (t:=i) (by omega);obtain⟨p,a1,a2,a3⟩:=W.at' i e he;rw[hx]at a1;cases a1;obtain⟨s0,ws,e1,e2,e3⟩:=hend i e he;rw[e1]at a3;have hp2:=S _ _ a2;have hl2:=S _ _ a3;simp only[zf,ze,↓reduceIte];refine⟨_,.of hp2,rfl,?_⟩;simp only[zf,ze,↓reduceIte];refine⟨_,.of hl2,_,zex s0 ws,?_⟩;rw[e2];refine jg (G.mono S) hi ht ?_;simp only[zf,ze,↓reduceIte];refine⟨by show 1<=sizeLine;decide,fun b hb => ?_⟩;have S1:Same H2 (upd H2 b (.lst [V.int t])):=Same.upd (Same.refl _) hb;refine⟨_,S1 _ _ hl2,_,zd,?_,fun c hc=>⟨by show 2<=sizeLine;decide,fun z hz => ?_⟩⟩
      . simp only[nI,Za,ZM,Yq]
        exact Zd (show ws.length+1+1<=102 by omega) (by decide)
      . have S2:Same (upd H2 b (.lst [V.int t])) (upd (upd H2 b (.lst [V.int t])) c (.lst ((nI (s0::ws)).map V.int++[V.int t]))):=Same.upd (Same.refl _) hc
        have hc2:upd (upd H2 b (.lst [V.int t])) c (.lst ((nI (s0::ws)).map V.int++[V.int t])) c=some (.lst ((nI (e.2.1++[t])).map V.int)):=by rw[zd,zfs,e1]
        have hcH:H c=none:=(S.trans S1).free hc;have S3:=Same.upd (o:=.tup [V.int (e.1+z8 rows i t),V.ref c]) (Same.refl (upd (upd H2 b (.lst [V.int t])) c (.lst ((nI (s0::ws)).map V.int++[V.int t])))) hz;have SS:=S1.trans (S2.trans S3);refine⟨S.trans SS,gs++[(e.1+z8 rows i t,e.2.1++[t],c)],W2.snoc SS zd (S3 _ _ hc2),by simp[hl],fun u e' hu => ?_⟩
        rcases tf hu with y | ⟨y,rfl⟩
        . exact hy u e' y
        . rw[y,hl]
          exact⟨hcH,e,he,rfl,rfl⟩
    . rintro ys H2 ⟨S,gs,W2,hl,hy⟩ lo hlo
      have S1:Same H2 (upd H2 lo (.lst ys)):=Same.upd (Same.refl _) hlo;have hyl:=W2.len;refine⟨ys,.of zd,by omega,fun u=>(gs.getD u (0,[],0)).1,fun i x hx => ?_,fun i x hx hm => ?_⟩
      . obtain⟨e',he'⟩:=um (xs:=gs) (t:=i) (by have:=uo hx;omega)
        obtain⟨p,a1,a2,a3⟩:=W2.at' i e' he';rw[hx]at a1;cases a1;refine⟨p,_,_,rfl,S1 _ _ a2,?_,rfl⟩
        show V.int e'.1=V.int (gs.getD i (0,[],0)).1
        rw[dq he']
      . obtain⟨e',he'⟩:=um (xs:=gs) (t:=i) (by have:=uo hx;omega)
        obtain⟨p,a1,a2,a3⟩:=W2.at' i e' he';rw[hx]at a1;cases a1;obtain⟨h0,e,b1,b2,b3⟩:=hy i e' he';rw[b2]at a2;rw[b3]at a3;refine q _ p e'.2.2 i e (S.trans S1) h0 b1 (fun u d hu => ?_) (S1 _ _ a2) (S1 _ _ a3);obtain⟨d',hd'⟩:=um (xs:=gs) (t:=u) (by have:=uo hu;omega);obtain⟨_,d2,c1,c2,c3⟩:=hy u d' hd';rw[hu]at c1;cases c1;have z:=(hm u (by have:=uo hu;omega)).1;have z':(gs.getD i (0,[],0)).1<=(gs.getD u (0,[],0)).1:=z;rw[dq he',dq hd']at z';omega
theorem zco (B:Bt mg) (rj:FnAt P w K mg base "least_to" 3 ["grid", "walks", "t"] (zc3 K)) (D:zc K mg "lengthened" u9 ["grid", "walks"]):FnAt P w K mg base "lengthened" 4 ["grid", "walks"] (zer K):=by
  refine FnAt.of D gy (fun vs H Q E h => ?_) (fun f cdv A outer s H vs Q E hr h => ?_)
  . obtain⟨g,r,rows,xs,fs,n,rfl,_⟩:=h
    rfl
  . obtain⟨g,r,rows,xs,fs,n,rfl,G,hr1,W,hlen,hend,q⟩:=h
    have n8:=G.n8;refine⟨_,(@zh _ _ _ (@zm _ _ _ _ (yg ["t"] ["grid", "walks"] rfl (yv rfl B.range (za (zq zt rfl B.len yc (za (pv 0) (@zb _))) (@zb _))) (fun _=>(zn (i:=0) (show(["t", "grid", "walks"]:List Str).Nodup by decide +kernel) rfl (Or.inl rfl))) (fun _=>(@z9 _)) (fun _=>(zi rj (hr.mono (by decide)) rfl (za (pv 1) (za (pv 2) (za (pv 0) (@zb _)))))) rfl (by decide +kernel) rfl rfl))),?_⟩;rw[show start ["grid", "walks"] [V.ref g,V.ref r]=[some (V.ref g),some (V.ref r)] from rfl];simp only[zf,ze,↓reduceIte];obtain⟨as,h1,h2⟩:=G.ex;refine⟨_,.inl h1.1,?_⟩;rw[Za,h2];refine⟨by omega,by omega,fun d => ?_⟩;rw[Zw];refine wp (fun i ys H2=>Same H H2/\∃gs,WsL H2 ys gs/\zjs (z8 rows) H fs gs i) ⟨Same.refl _,[],WsL.nil,rfl,Dis.nil,fun t e he=>by simp at he,fun t e he=>by simp at he⟩ ?_ ?_ ?_
    . rintro i ys H' hi ⟨S,gs,W2,L⟩
      rw[W2.len,L.len];exact Zd hi (Zd n8 (by decide))
    . rintro i ys H' hi ⟨S,gs,W2,L⟩
      simp only[zf,ze,↓reduceIte];refine⟨g,r,rows,xs,fs,n,i,rfl,G.mono S,S _ _ hr1,W.mono S,hlen,hend,hi,fun H2 p l j e S2 hl hj hm hp hl2 => ?_⟩;refine⟨S.trans S2,gs++[(e.1+z8 rows j i,e.2.1++[i],l)],W2.snoc S2 hp hl2,by simp[L.len],L.dis.snoc W2 hl,fun t e' he' => ?_,fun t e' he' => ?_⟩
      . rcases tf he' with y | ⟨y,rfl⟩
        . exact L.new t e' y
        . exact S.free hl
      . rcases tf he' with y | ⟨y,rfl⟩
        . exact L.min t e' y
        . rw[y,L.len]
          exact⟨j,e,hj,hm,rfl,rfl⟩
    . rintro ys H' ⟨S,gs,W2,L⟩ l hl
      have S1:Same H' (upd H' l (.lst ys)):=Same.upd (Same.refl _) hl;exact q _ l ys gs (S.trans S1) zd (W2.mono S1) L
theorem cf (wo:FnAt P w K mg base "total_of" 1 ["walk"] lc) (D:zc K mg "lesser" ge ["walk", "longer"]):FnAt P w K mg base "lesser" 2 ["walk", "longer"] zb9:=by
  refine FnAt.of D zik (fun vs H Q E h => ?_) (fun f cdv A outer s H vs Q E hr h => ?_)
  . obtain⟨p,q,i,j,l,m,rfl,_⟩:=h
    rfl
  . obtain⟨p,q,i,j,l,m,rfl,hp,hq,q1,q2⟩:=h
    refine⟨_,(@zh _ _ _ (@zm _ _ _ _ (@zkr _ _ _ _ _ _ _ _ (@yn _ _ _ _ _ _ _ _ zag (zi wo (hr.mono (by decide)) rfl (za (pv 1) (@zb _))) (zi wo (hr.mono (by decide)) rfl (za (pv 0) (@zb _))) (yt _)) (pv 1) (pv 0)))),?_⟩;rw[show start ["walk", "longer"] [V.ref p,V.ref q]=[some (V.ref p),some (V.ref q)] from rfl];simp only[zf,ze,↓reduceIte];refine⟨q,j,m,rfl,hq,?_⟩;simp only[zf,ze,↓reduceIte];refine⟨p,i,l,rfl,hp,?_⟩;simp only[zf,ze,↓reduceIte];exact ite2 (fun h=>q1 (of_decide_eq_true h)) fun h=>q2 (Int.not_lt.mp fun z=>h (decide_eq_true z))
end
def fOf(fs:List (Int×List Nat×Addr))(t:Nat):Int×List Nat:=((fs.getD t (0,[],0)).1,(fs.getD t (0,[],0)).2.1)
theorem ul{fs:List (Int×List Nat×Addr)}{t:Nat}{e:Int×List Nat×Addr}(h:fs[t]? = some e):fOf fs t=(e.1,e.2.1):=by unfold fOf;rw[dq h]
theorem Rds.endOk{T:Nat->Nat->Int}{b:Nat->Int}{S:Nat->Prop}{n k:Nat}{fs:List (Int×List Nat×Addr)}(R:Rds T b S n k (fOf fs))(hl:fs.length=n)(hk:k<=100):zf1 fs:=fun t e he=>by
  obtain⟨s,ws,e1,hS,hs,hto,hw,hv,hd,hk2⟩:=(R.rd t (by have:=uo he;omega)).ex;rw[ul he]at e1;exact⟨s,ws,e1,by rw[<-zgo];exact hto,by omega⟩
structure Told(T:Nat->Nat->Int)(b:Nat->Int)(S:Nat->Prop)(n k:Nat)(fs gs:List (Int×List Nat×Addr)):Prop where
  len:gs.length=n
  dis:Dis gs
  rds:Rds T b S n k (fOf gs)
  le:∀t,t<n->(fOf gs t).1<=(fOf fs t).1
def zfm(K:Fg):Sp:=fun vs H Q _=>∃(g r:Addr) (rows:List (List Int)) (xs:List V) (fs:List (Int×List Nat×Addr)) (n k:Nat) (b:Nat->Int) (S:Nat->Prop),vs=[.ref g,.ref r]/\Gd K H g rows n/\0<n/\(∀k,NoNeg (z8 rows) n k)/\H r=some (.lst xs)/\WsL H xs fs /\
  fs.length=n/\Dis fs/\Rds (z8 rows) b S n k (fOf fs)/\k<=1/\∀H' r' ys gs,Same H H'->H' r'=some (.lst ys)->WsL H' ys gs->Told (z8 rows) b S n (k+(n-1)) fs gs->Q (.ref r') H'
def PvMix(H3:Hp)(gs hs:List (Int×List Nat×Addr))(i:Nat)(vs:List V)(H4:Hp):Prop:=Same H3 H4/\∃ks,WsL H4 vs ks/\ks.length=i/\∀(t:Nat) e,ks[t]? = some e->∃d e',gs[t]? = some d/\hs[t]? = some e'/\((e'.1<d.1/\e=e')\/(d.1<=e'.1/\e=d))
def zmh(H:Hp)(g:Addr)(T:Nat->Nat->Int)(b:Nat->Int)(S:Nat->Prop)(n k:Nat)(fs:List (Int×List Nat×Addr))(i:Nat)(σ:L2.St)(H2:Hp):Prop:=Same H H2/\∃r' ys gs v2,σ=[some (.ref g),some (.ref r'),v2]/\H2 r'=some (.lst ys)/\WsL H2 ys gs/\Told T b S n (k+i) fs gs
section
variable{P:Program}{w:World}{K:Fg}{mg:Str->Option Value}{base:Heap}
theorem nu (B:Bt mg) (u5:FnAt P w K mg base "lengthened" 4 ["grid", "walks"] (zer K)) (cf:FnAt P w K mg base "lesser" 2 ["walk", "longer"] zb9) (D:zc K mg "least_roads" sw ["grid", "walks"]):FnAt P w K mg base "least_roads" 5 ["grid", "walks"] (zfm K):=by
  refine FnAt.of D sc_least_roads (fun vs H Q E h => ?_) (fun f cdv A outer s H vs Q E hr h => ?_)
  . obtain⟨g,r,rows,xs,fs,n,k,b,S,rfl,_⟩:=h
    rfl
  . obtain⟨g,r,rows,xs,fs,n,k,b,Sd,rfl,G,hn,no,hr1,W,hlen,hdis,R,hk,q⟩:=h
    have n8:=G.n8;refine⟨_,(@zj _ _ _ _ _ (we PassesOwn.never rfl (fb rfl B.range (za (@zg _ _ _ _) (za (@zl _ _ _ _ _ _ _ _ yo (zq zt rfl B.len yc (za (pv 0) (@zb _))) (@zg _ _ _ _)) (@zb _)))) (zn (i:=2) sc_least_roads.nd rfl (Or.inl rfl)) (@zh _ _ _ (ux (i:=1) ["walk", "longer"] ["grid", "walks", "size"] sc_least_roads.nd rfl rfl rfl (pi_zip rfl B.zip (za (pv 1) (za (zi u5 (hr.mono (by decide)) rfl (za (pv 0) (za (pv 1) (@zb _)))) (@zb _)))) (fun _=>(si rfl (yx (zn (i:=0) (show(["walk", "longer", "grid", "walks", "size"]:List Str).Nodup by decide +kernel) rfl (Or.inl rfl)) (yx (zn (i:=1) (show(["walk", "longer", "grid", "walks", "size"]:List Str).Nodup by decide +kernel) rfl (Or.inl rfl)) (@uw _))))) (fun _=>(@z9 _)) (fun _=>(zi cf (hr.mono (by decide)) rfl (za (pv 0) (za (pv 1) (@zb _))))) rfl (by decide +kernel) rfl rfl rfl))) (@zh _ _ _ (@zm _ _ _ _ (pv 1)))),?_⟩;rw[show start ["grid", "walks", "size"] [V.ref g,V.ref r]=[some (V.ref g),some (V.ref r),none] from rfl]
    (try dsimp only[xp,e_C,e_op,e_rI,xq,xt,x6,xx,x9,y4,e_B,x0,e_or,wb,x5,x8,y9,xw,y3,xz,xu,xy,yi,xr,y0,wc,xv,y7,e_CB,e_BM,y8,e_iL,wa,y6,cxK,noxK,xc,yz,yl]);(try simp only[zf,ze,↓reduceIte])
    obtain⟨as,h1,h2⟩:=G.ex;refine⟨_,.inl h1.1,?_⟩;rw[Za,h2];refine⟨by omega,by omega,by omega,by omega,?_⟩;rw[show((n:Int)+1-2).toNat=n-1 by omega];refine vg (zmh H g (z8 rows) b Sd n k fs) ⟨Same.refl _,r,xs,fs,_,rfl,hr1,W,hlen,hdis,R,fun t ht=>YD _⟩ ?_ ?_
    . rintro i σ H2 hi ⟨S2,r',ys,gs,v2,rfl,hr2,W2,Td⟩
      have lg:=Td.len;have ly:=W2.len;have le:=Td.le;simp only[zf,ze,↓reduceIte];refine⟨g,r',rows,ys,gs,n,rfl,G.mono S2,hr2,W2,lg,Td.rds.endOk lg (by omega),fun H3 r3 zs hs S3 hr3 W3 L => ?_⟩;have lh:=L.len;have lz:=W3.len;simp only[zf,ze,↓reduceIte];refine⟨⟨_,.of (S3 _ _ hr2)⟩,⟨_,.of hr3⟩,fun d => ?_⟩;refine zkf (xs:=ys) (zs:=zs) (PvMix H3 gs hs) ⟨Same.refl _,[],WsL.nil,rfl,fun t e he=>by simp at he⟩ ?_ ?_ ?_
      . rintro j vs H4 hj ⟨S4,ks,W4,lk,_⟩
        refine⟨?_,(S3.trans S4).seq (.of hr2),S4.seq (.of hr3)⟩;rw[W4.len,lk];exact Zd hj (Zd (Nat.min_le_left _ _) (Zd (show ys.length<=8 by omega) (by decide)))
      . rintro j x z vs H4 U hx hz hU ⟨S4,ks,W4,lk,hks⟩
        obtain⟨d1,hd1⟩:=um (xs:=gs) (t:=j) (by have:=uo hx;omega);obtain⟨e1,he1⟩:=um (xs:=hs) (t:=j) (by have:=uo hz;omega);obtain⟨p,a1,a2,a3⟩:=W2.at' j d1 hd1;obtain⟨p',b1,b2,b3⟩:=W3.at' j e1 he1;rw[hx]at a1;cases a1;rw[hz]at b1;cases b1;have SU:Same H4 (upd H4 U (.tup [V.ref p,V.ref p'])):=Same.upd (Same.refl _) hU;simp only[zf,ze,↓reduceIte];refine⟨_,.of zd,rfl,?_⟩;simp only[zf,ze,↓reduceIte];generalize upd H4 U (.tup [V.ref p,V.ref p'])=H5 at *;have S35:=S4.trans SU;have S25:=S3.trans S35;refine⟨p,p',_,_,_,_,rfl,S25 _ _ a2,S35 _ _ b2,fun hlt => ?_,fun hle => ?_⟩
        . refine⟨S35,ks++[e1],W4.snoc SU (S35 _ _ b2) (S35 _ _ b3),by simp[lk],fun t e he => ?_⟩
          rcases tf he with y | ⟨y,rfl⟩
          . exact hks t e y
          . rw[y,lk]
            exact⟨d1,_,hd1,he1,.inl ⟨hlt,rfl⟩⟩
        . refine⟨S35,ks++[d1],W4.snoc SU (S25 _ _ a2) (S25 _ _ a3),by simp[lk],fun t e he => ?_⟩
          rcases tf he with y | ⟨y,rfl⟩
          . exact hks t e y
          . rw[y,lk]
            exact⟨_,e1,hd1,he1,.inr ⟨hle,rfl⟩⟩
      . rintro vs H4 ⟨S4,ks,W4,lk,hks⟩ l hl
        have lk':ks.length=n:=by rw[lk];omega
        have S5:Same H4 (upd H4 l (.lst vs)):=Same.upd (Same.refl _) hl;refine⟨S2.trans (S3.trans (S4.trans S5)),l,vs,ks,_,rfl,zd,W4.mono S5,lk',?_,?_,fun t ht => ?_⟩
        . intro t u e d he hd ee
          obtain⟨d1,e1,c1,c2,c3⟩:=hks t e he;obtain⟨d2,e2,c4,c5,c6⟩:=hks u d hd
          rcases c3 with ⟨_,rfl⟩ | ⟨_,rfl⟩ <;> rcases c6 with ⟨_,rfl⟩ | ⟨_,rfl⟩
          . exact L.dis t u _ _ c2 c5 ee
          . obtain⟨_,_,_,x3⟩:=W2.at' u _ c4
            rw[<-ee,L.new t _ c2]at x3;cases x3
          . obtain⟨_,_,_,x3⟩:=W2.at' t _ c1
            rw[ee,L.new u _ c5]at x3;cases x3
          . exact Td.dis t u _ _ c1 c4 ee
        . refine Td.rds.step no fun t ht => ?_
          obtain⟨e,he⟩:=um (xs:=ks) (t:=t) (by omega);obtain⟨d1,e1,c1,c2,c3⟩:=hks t e he;obtain⟨i2,e2,x1,x2,x3,x4⟩:=L.min t e1 c2;refine⟨i2,by have:=uo x1;omega,fun u hu => ?_,?_⟩
          . obtain⟨d,hd⟩:=um (xs:=gs) (t:=u) (by omega)
            rw[ul x1,ul hd];exact x2 u d hd
          . rw[ul x1,ul c1,ul he]
            rcases c3 with ⟨y,rfl⟩ | ⟨y,rfl⟩
            . left
              rw[x3]at y;exact⟨y,by rw[x3,x4]⟩
            . right
              rw[x3]at y;exact⟨y,rfl⟩
        . obtain⟨e,he⟩:=um (xs:=ks) (t:=t) (by omega)
          obtain⟨d1,e1,c1,c2,c3⟩:=hks t e he;have z:=le t ht;rw[ul c1]at z;rw[ul he];have z':d1.1<=(fOf fs t).1:=z
          show e.1<=_
          rcases c3 with ⟨y,rfl⟩ | ⟨y,rfl⟩
          . omega
          . exact z'
    . rintro σ H2 ⟨S2,r',ys,gs,v2,rfl,hr2,W2,Td⟩
      simp only[zf,ze,↓reduceIte];exact q H2 r' ys gs S2 hr2 W2 Td
end
structure ToldAt(H:Hp)(v:V)(gs:List (Int×List Nat×Addr)):Prop where
  ex:∃tp pl rl,v=V.ref tp/\H tp=some (.tup [.ref pl,.ref rl])/\H pl=some (.lst ((gs.map fun e=>e.1).map V.int))/\H rl=some (.lst (gs.map fun e=>V.ref e.2.2))
  road:∀e∈gs,H e.2.2=some (.lst ((nI e.2.1).map V.int))
def zb8(a:Ad)(K:Fg):Sp:=fun vs H Q E=>∃(g:Addr) (rows:List (List Int)) (n:Nat),vs=[.ref g]/\Gd K H g rows n/\0<n/\(∀H',Same H H'->(∀j,j<=n->NoNeg (z8 rows) n j)->Q .non H') /\
  ∀H' c,Same H H'->RingA (z8 rows) n c->E (.ref a.NoPays) none H'
def PvTot(H3:Hp)(gs:List (Int×List Nat×Addr))(i:Nat)(ys:List V)(H4:Hp):Prop:=H4=H3/\ys=((gs.take i).map fun e=>e.1).map V.int
def PvWds(H3:Hp)(gs:List (Int×List Nat×Addr))(i:Nat)(ys:List V)(H4:Hp):Prop:=H4=H3/\ys=(gs.take i).map fun e=>V.ref e.2.2
def PvOne(H:Hp)(b:Nat->Int)(i:Nat)(ys:List V)(H4:Hp):Prop:=Same H H4/\∃gs,WsL H4 ys gs/\gs.length=i/\Dis gs/\∀t,t<i->fOf gs t=(b t,[t])
section
variable{P:Program}{w:World}{K:Fg}{mg:Str->Option Value}{base:Heap}{a:Ad}
theorem ny (B:Bt mg) (C:Ct K mg a) (fh:FnAt P w K mg base "ring" 5 ["grid"] (zda K)) (D:zc K mg "refuse_ring" sy ["grid"]):FnAtX P w K mg base "refuse_ring" 6 ["grid"] (zb8 a K):=by
  refine FnAtX.of D zaw (fun vs H Q E h => ?_) (fun f cdv A outer s H vs Q E hr h => ?_)
  . obtain⟨g,rows,n,rfl,_⟩:=h
    rfl
  . obtain⟨g,rows,n,rfl,G,hn,q0,q1⟩:=h
    refine⟨_,(@zh _ _ _ (@xg _ _ _ _ _ _ _ _ (@yn _ _ _ _ _ _ _ _ za2 (zi fh (hr.mono (by decide)) rfl (za (pv 0) (@zb _))) (@oy _ _ _) (yt _)) (@zh _ _ _ (cr rfl C.q_NoPays.toErr rfl C.m_NoPays (jy rfl) (za (@rk _ _ _ _) (@zb _)))) (@ye _))),?_⟩;rw[show start ["grid"] [V.ref g]=[some (V.ref g)] from rfl];simp only[zf,ze,↓reduceIte];refine⟨g,rows,n,rfl,G,hn,fun H1 S1 no => ?_,fun H1 l c S1 hl R => ?_⟩
    . simp only[zf,ze,↓reduceIte]
      exact ite2 (fun z=>absurd z (by simp)) fun _=>q0 H1 S1 no
    . simp only[zf,ze,↓reduceIte]
      exact ite2 (fun _=>⟨by decide,q1 H1 c S1 R⟩) fun z=>(z (by simp)).elim
end
structure Great(rows:List (List Int))(n:Nat)(gs:List (Int×List Nat×Addr)):Prop where
  len:gs.length=n
  dis:Dis gs
  no:∀k,NoNeg (z8 rows) n k
  rds:Rds (z8 rows) (fun t=>gcA rows t t) (fun _=>True) n (n-1) (fOf gs)
  le:∀t,t<n->(fOf gs t).1<=gcA rows t t
def zap(a:Ad)(K:Fg):Sp:=fun vs H Q E=>∃(g:Addr) (rows:List (List Int)) (n:Nat),vs=[.ref g]/\Gd K H g rows n/\0<n/\(∀H' v gs,Same H H'->ToldAt H' v gs->Great rows n gs->Q v H') /\
  ∀H' c,Same H H'->RingA (z8 rows) n c->E (.ref a.NoPays) none H'
section
variable{P:Program}{w:World}{K:Fg}{mg:Str->Option Value}{base:Heap}{a:Ad}
theorem ql (B:Bt mg) (C:Ct K mg a) (ny:FnAtX P w K mg base "refuse_ring" 6 ["grid"] (zb8 a K)) (nu:FnAt P w K mg base "least_roads" 5 ["grid", "walks"] (zfm K)) (wo:FnAt P w K mg base "total_of" 1 ["walk"] lc) (rp:FnAt P w K mg base "words_of" 1 ["walk"] ef)
    (D:zc K mg "greatest" m6 ["grid"]):FnAtX P w K mg base "greatest" 7 ["grid"] (zap a K):=by
  refine FnAtX.of D sc_greatest (fun vs H Q E h => ?_) (fun f cdv A outer s H vs Q E hr h => ?_)
  . obtain⟨g,rows,n,rfl,_⟩:=h
    rfl
  . obtain⟨g,rows,n,rfl,G,hn,q0,q1⟩:=h
    have n8:=G.n8;refine⟨_,(@zj _ _ _ _ _ (rh (cw ny (hr.mono (by decide)) (a8 rfl) rfl (za (pv 0) (@zb _)))) (@zj _ _ _ _ _ (PS.nox (zw (i:=1) sc_greatest.nd rfl (Or.inl rfl) (zi nu (hr.mono (by decide)) rfl (za (pv 0) (za (yg ["t"] ["grid", "walks"] rfl (yv rfl B.range (za (zq zt rfl B.len yc (za (pv 0) (@zb _))) (@zb _))) (fun _=>(zn (i:=0) (show(["t", "grid", "walks"]:List Str).Nodup by decide +kernel) rfl (Or.inl rfl))) (fun _=>(@z9 _)) (fun _=>(@wg _ _ _ _ _ (@za _ _ _ _ _ (@z0 _ _ _ _ _ _ _ yf (@z0 _ _ _ _ _ _ _ yf (pv 1) (pv 0) (fun _ _=>rfl)) (pv 0) (fun _ _=>rfl)) (@za _ _ _ _ _ (@w9 _ _ _ _ (@za _ _ _ _ _ (pv 0) (@zb _) (yd nofun))) (@zb _) (yd nofun)) (yd nofun)))) rfl (by decide +kernel) rfl rfl) (@zb _)))))) (@zh _ _ _ (PS.nox (@zm _ _ _ _ (@wg _ _ _ _ _ (za (yg ["walk"] ["grid", "walks"] rfl (@yk _ _ _ _ (pv 1)) (fun _=>(zn (i:=0) (show(["walk", "grid", "walks"]:List Str).Nodup by decide +kernel) rfl (Or.inl rfl))) (fun _=>(@z9 _)) (fun _=>(zi wo (hr.mono (by decide)) rfl (za (pv 0) (@zb _)))) rfl (by decide +kernel) rfl rfl) (za (yg ["walk"] ["grid", "walks"] rfl (@yk _ _ _ _ (pv 1)) (fun _=>(zn (i:=0) (show(["walk", "grid", "walks"]:List Str).Nodup by decide +kernel) rfl (Or.inl rfl))) (fun _=>(@z9 _)) (fun _=>(zi rp (hr.mono (by decide)) rfl (za (pv 0) (@zb _)))) rfl (by decide +kernel) rfl rfl) (@zb _))))))))),?_⟩;rw[show start ["grid", "walks"] [V.ref g]=[some (V.ref g),none] from rfl]
    (try dsimp only[xp,e_C,e_op,e_rI,xq,xt,x6,xx,x9,y4,e_B,x0,e_or,wb,x5,x8,y9,xw,y3,xz,xu,xy,yi,xr,y0,wc,xv,y7,e_CB,e_BM,y8,e_iL,wa,y6,cxK,noxK,xc,yz,yl]);(try simp only[zf,ze,↓reduceIte])
    refine⟨g,rows,n,rfl,G,hn,fun H1 S1 no => ?_,fun H1 c S1 R=>q1 H1 c S1 R⟩;have no':=NoNeg.all no;simp only[zf,ze,↓reduceIte];obtain⟨as,h1,h2⟩:=(G.mono S1).ex;refine⟨_,.inl h1.1,?_⟩;rw[Za,h2];refine⟨by omega,by omega,fun d => ?_⟩;rw[Zw];refine wp (PvOne H1 fun t=>gcA rows t t) ⟨Same.refl _,[],WsL.nil,rfl,Dis.nil,fun t ht=>by omega⟩ ?_ ?_ ?_
    . rintro i ys H2 hi ⟨S2,gs,W2,lg,_⟩
      rw[W2.len,lg];exact Zd hi (Zd n8 (by decide))
    . rintro i ys H2 hi ⟨S2,gs,W2,lg,hd,hf⟩
      obtain⟨ns',e1,l1⟩:=G.sq i hi;have G2:=GridL.mono S2 h1;obtain⟨r,k1,k2⟩:=zdg G2 e1;simp only[zf,ze,↓reduceIte];refine⟨_,G2.1,_,k1,r,rfl,_,k2,_,l8 (ig e1 (by omega)),by show 1<=sizeLine;decide,fun l hl=>⟨by show 2<=sizeLine;decide,fun p hp => ?_⟩⟩;have S3:Same H2 (upd H2 l (.lst [V.int i])):=Same.upd (Same.refl _) hl;have hl3:upd H2 l (.lst [V.int i]) l=some (.lst ((nI [i]).map V.int)):=zd;generalize upd H2 l (.lst [V.int i])=H3 at *;have S4:Same H3 (upd H3 p (.tup [V.int (gcA rows i i),V.ref l])):=Same.upd (Same.refl _) hp;have hp4:upd H3 p (.tup [V.int (gcA rows i i),V.ref l]) p=some (.tup [V.int (gcA rows i i),V.ref l]):=zd;generalize upd H3 p (.tup [V.int (gcA rows i i),V.ref l])=H4 at *;refine⟨S2.trans (S3.trans S4),gs++[(gcA rows i i,[i],l)],W2.snoc (S3.trans S4) hp4 (S4 _ _ hl3),by simp[lg],hd.snoc W2 hl,fun t ht => ?_⟩
      by_cases e:t<i
      . rw[<-hf t e]
        unfold fOf;rw[Zk,Zg (by omega),<-Zk]
      . have:t=i:=by omega
        subst this;rw[ul (e:=(gcA rows t t,[t],l)) (by rw[Zf (by omega),lg];simp)]
    . rintro ys H2 ⟨S2,gs,W2,lg,hd,hf⟩ l hl
      have S3:Same H2 (upd H2 l (.lst ys)):=Same.upd (Same.refl _) hl;have hl3:upd H2 l (.lst ys) l=some (.lst ys):=zd;generalize upd H2 l (.lst ys)=H3 at *;have S13:=S1.trans (S2.trans S3);refine⟨g,l,rows,ys,gs,n,0,_,_,rfl,G.mono S13,hn,no',hl3,W2.mono S3,lg,hd,Rds.one hf,by omega,fun H4 r4 zs hs S4 hr4 W4 Td => ?_⟩;have lz:=W4.len;have lh:=Td.len;simp only[zf,ze,↓reduceIte];refine⟨⟨_,.of hr4⟩,fun d2 => ?_⟩;refine yu (xs:=zs) (PvTot H4 hs) ⟨rfl,rfl⟩ ?_ ?_ ?_
      . rintro i ys5 H5 hi ⟨rfl,rfl⟩
        refine⟨?_,.of hr4⟩;rw[Za,Za,Zj];exact Zd (ZB _ _) (Zd (show hs.length<=8 by omega) (by decide))
      . rintro i x ys5 H5 hx ⟨rfl,rfl⟩
        obtain⟨e,he⟩:=um (xs:=hs) (t:=i) (by have:=uo hx;omega);obtain⟨p,a1,a2,a3⟩:=W4.at' i e he;rw[hx]at a1;cases a1;simp only[zf,ze,↓reduceIte];refine⟨p,_,_,rfl,a2,rfl,?_⟩;rw[Zq,he];simp
      . rintro ys5 H5 ⟨rfl,rfl⟩ pl hpl
        rw[lz,Zt];have S6:Same H5 (upd H5 pl (.lst ((hs.map fun e=>e.1).map V.int))):=Same.upd (Same.refl _) hpl;have hp6:upd H5 pl (.lst ((hs.map fun e=>e.1).map V.int)) pl=some (.lst ((hs.map fun e=>e.1).map V.int)):=zd;generalize upd H5 pl (.lst ((hs.map fun e=>e.1).map V.int))=H6 at *;refine⟨⟨_,S6.seq (.of hr4)⟩,fun d3 => ?_⟩;refine yu (xs:=zs) (PvWds H6 hs) ⟨rfl,rfl⟩ ?_ ?_ ?_
        . rintro i ys5 H5 hi ⟨rfl,rfl⟩
          refine⟨?_,S6.seq (.of hr4)⟩;rw[Za,Zj];exact Zd (ZB _ _) (Zd (show hs.length<=8 by omega) (by decide))
        . rintro i x ys5 H5 hx ⟨rfl,rfl⟩
          obtain⟨e,he⟩:=um (xs:=hs) (t:=i) (by have:=uo hx;omega);obtain⟨p,a1,a2,a3⟩:=W4.at' i e he;rw[hx]at a1;cases a1;simp only[zf,ze,↓reduceIte];refine⟨p,_,_,rfl,S6 _ _ a2,rfl,?_⟩;rw[Zq,he];simp
        . rintro ys7 H7 ⟨rfl,rfl⟩ rl hrl
          rw[lz,Zt];have S7:Same H7 (upd H7 rl (.lst (hs.map fun e=>V.ref e.2.2))):=Same.upd (Same.refl _) hrl;have hr7:upd H7 rl (.lst (hs.map fun e=>V.ref e.2.2)) rl=some (.lst (hs.map fun e=>V.ref e.2.2)):=zd;generalize upd H7 rl (.lst (hs.map fun e=>V.ref e.2.2))=H8 at *;refine⟨by show 2<=sizeLine;decide,fun tp htp => ?_⟩;have S9:Same H8 (upd H8 tp (.tup [V.ref pl,V.ref rl])):=Same.upd (Same.refl _) htp;have ht9:upd H8 tp (.tup [V.ref pl,V.ref rl]) tp=some (.tup [V.ref pl,V.ref rl]):=zd;generalize upd H8 tp (.tup [V.ref pl,V.ref rl])=H9 at *;have S79:=S7.trans S9;refine q0 H9 _ hs (S13.trans (S4.trans (S6.trans S79))) ⟨⟨tp,pl,rl,rfl,ht9,S79 _ _ hp6,S9 _ _ hr7⟩,fun e he => ?_⟩ ⟨lh,Td.dis,no',by have:=Td.rds;rw[Nat.zero_add]at this;exact this,fun t ht => ?_⟩
          . obtain⟨t,ht,rfl⟩:=Zy he
            obtain⟨p,a1,a2,a3⟩:=W4.at' t hs[t] (by simp[ht]);exact(S6.trans S79) _ _ a3
          . have:=Td.le t ht
            rw[hf t ht]at this;exact this
end
def Hon(rows:List (List Int))(ps:List Int)(n:Nat):Prop:=∀t s:Nat,t<n->s<n->gcA rows t s-gcA rows t t<=ps.getD s 0-ps.getD t 0
theorem za1{gs:List (Int×List Nat×Addr)}{t:Nat}(h:t<gs.length):(gs.map fun e=>e.1).getD t 0=(fOf gs t).1:=by
  obtain⟨e,he⟩:=um h;rw[ul he,Zk,Ze,he];rfl
theorem Great.hon{rows:List (List Int)}{n:Nat}{gs:List (Int×List Nat×Addr)}(g:Great rows n gs):Hon rows (gs.map fun e=>e.1) n:=fun t s ht hs=>by
  have lg:=g.len;rw[za1 (by omega),za1 (by omega)];have:=g.rds.honest g.no (by omega) hs ht;unfold z8 at this;omega
def za8:Sp:=fun vs H Q _=>∃(c:Addr) (r:List Str) (k:Nat) (z:Str),vs=[.ref c,.int k,.str z]/\H c=some (.tup (r.map V.str))/\k<=r.length/\r.length<=8/\∀H' p,Same H H'->H' p=some (.tup ((insP r k z).map V.str))->Q (.ref p) H'
section
variable{P:Program}{w:World}{K:Fg}{mg:Str->Option Value}{base:Heap}{a:Ad}
theorem mt (B:Bt mg) (D:zc K mg "row_with" mz ["others", "k", "word"]):FnAt P w K mg base "row_with" 1 ["others", "k", "word"] za8:=by
  refine FnAt.of D zeg (fun vs H Q E h => ?_) (fun f cdv A outer s H vs Q E hr h => ?_)
  . obtain⟨c,r,k,z,rfl,_⟩:=h
    rfl
  . obtain⟨c,r,k,z,rfl,hc,hk,h8,q⟩:=h
    refine⟨_,(@zh _ _ _ (@zm _ _ _ _ (@zl _ _ _ _ _ _ _ _ m7 (@zl _ _ _ _ _ _ _ _ m7 (@re _ _ _ _ _ _ _ _ _ _ de (pv 0) (@qz _) (@tm _ _ _ (pv 1))) (@wg _ _ _ _ _ (za (pv 2) (@zb _)))) (@re _ _ _ _ _ _ _ _ _ _ de (pv 0) (@tm _ _ _ (pv 1)) (@qz _))))),?_⟩;rw[show start ["others", "k", "word"] [V.ref c,V.int k,V.str z]=[some (V.ref c),some (V.int k),some (V.str z)] from rfl];simp only[zf,ze,↓reduceIte];refine⟨_,hc,fun H1 p1 S1 h1=>⟨by decide,fun p2 hp2 => ?_⟩⟩;rw[dm (by rw[Za];exact hk)]at h1;have S2:Same H1 (upd H1 p2 (.tup [V.str z])):=Same.upd (Same.refl _) hp2;refine⟨_,S2 _ _ h1,_,zd,?_,fun H3 p3 S3 h3 => ?_⟩
    . rw[Zj,Za]
      exact Zd (show _<=9 by simp;omega) (by decide)
    refine⟨_,(S1.trans (S2.trans S3)) _ _ hc,fun H4 p4 S4 h4 => ?_⟩;rw[jn (by rw[Za];exact hk)]at h4;refine⟨_,S4 _ _ h3,_,h4,?_,fun H5 p5 S5 h5 => ?_⟩
    . simp only[Zo,Zj,Yc,Za,ZM,Yq]
      exact Zd (show _<=17 by omega) (by decide)
    . refine q H5 p5 (S1.trans (S2.trans (S3.trans (S4.trans S5)))) ?_
      rw[h5,insP];simp
end
def putP(f:List Str->Str)(outs o:List Str)(k:Nat)(us:List Str):List Nat:=us.map fun u=>outs.idxOf (f (insP o k u))
def colP(d:HD)(ps:List Nat):List (List Int):=d.worths.map fun r=>ps.map fun p=>r.getD p 0
def e8(f:List Str->Str)(rs:List (List Str))(outs o:List Str)(k:Nat)(d:HD):Prop:=k<=o.length/\o.length<=8/\∀u∈d.words,insP o k u∈rs/\f (insP o k u)∈outs
def zay:Sp:=fun vs H Q _=>∃(p o h t c:Addr) (hs:List Addr) (outs:List Str) (ds:List HD) (f:List Str->Str) (rs:List (List Str)) (ot:List Str) (k:Nat) (d:HD),vs=[.ref p,.ref t,.int k,.ref c]/\HHouse H p o h hs outs ds/\GoodHouse outs ds/\H t=some (.dT (yb f rs))/\ds[k]? = some d/\H c=some (.tup (ot.map V.str))/\e8 f rs outs ot k d /\
  ∀H' l,Same H H'->H' l=some (.lst ((nI (putP f outs ot k d.words)).map V.int))->Q (.ref l) H'
def bu:Sp:=fun vs H Q _=>∃(t l:Addr) (ns:List Int) (ps:List Nat),vs=[.ref t,.ref l]/\H t=some (.tup (ns.map V.int))/\H l=some (.lst ((nI ps).map V.int))/\(∀p∈ps,p<ns.length)/\ps.length<=8/\∀H' l',Same H H'->H' l'=some (.lst ((ps.map fun p=>ns.getD p 0).map V.int))->Q (.ref l') H'
def ck:Sp:=fun vs H Q _=>∃(p o h t c:Addr) (hs:List Addr) (outs:List Str) (ds:List HD) (f:List Str->Str) (rs:List (List Str)) (ot:List Str) (k:Nat) (d:HD),vs=[.ref p,.ref t,.int k,.ref c]/\HHouse H p o h hs outs ds/\GoodHouse outs ds/\H t=some (.dT (yb f rs))/\ds[k]? = some d/\H c=some (.tup (ot.map V.str))/\e8 f rs outs ot k d /\
  ∀H' l ls,Same H H'->H' l=some (.lst (ls.map V.ref))->IntsAt H' ls (colP d (putP f outs ot k d.words))->Q (.ref l) H'
def PvTu(H:Hp)(o:List Str)(k:Nat)(us:List Str)(i:Nat)(ys:List V)(H':Hp):Prop:=Same H H'/\∃as:List Addr,ys=as.map V.ref/\TupsAt H' as ((us.take i).map (insP o k))
def PvPp(H:Hp)(f:List Str->Str)(outs o:List Str)(k:Nat)(us:List Str)(i:Nat)(ys:List V)(H':Hp):Prop:=H'=H/\ys=(nI (putP f outs o k (us.take i))).map V.int
def PvWa(H:Hp)(ns:List Int)(ps:List Nat)(i:Nat)(ys:List V)(H':Hp):Prop:=H'=H/\ys=((ps.take i).map fun p=>ns.getD p 0).map V.int
def PvCl(H:Hp)(d:HD)(ps:List Nat)(i:Nat)(ys:List V)(H':Hp):Prop:=Same H H'/\∃ls:List Addr,ys=ls.map V.ref/\IntsAt H' ls ((colP d ps).take i)
section
variable{P:Program}{w:World}{K:Fg}{mg:Str->Option Value}{base:Heap}{a:Ad}
theorem vi (B:Bt mg) (mt:FnAt P w K mg base "row_with" 1 ["others", "k", "word"] za8) (yr:FnAt P w K mg base "words_of_hand" 1 ["hand"] (wz K 1)) (f_hands_of:FnAt P w K mg base "hands_of" 1 ["house"] (wz K 1)) (f_outcomes_of:FnAt P w K mg base "outcomes_of" 1 ["house"] (wz K 0)) (D:zc K mg "dealt_places" tq ["house", "table", "k", "others"]):FnAt P w K mg base "dealt_places" 2 ["house", "table", "k", "others"] zay:=by
  refine FnAt.of D sc_dealt_places (fun vs H Q E h => ?_) (fun f cdv A outer s H vs Q E hr h => ?_)
  . obtain⟨p,o,h,t,c,hs,outs,ds,f,rs,ot,k,d,rfl,_⟩:=h
    rfl
  . obtain⟨p,o,h,t,c,hs,outs,ds,f,rs,ot,k,d,rfl,hH,G,ht,hd,hc,⟨hk,h8,hD⟩,q⟩:=h
    refine⟨_,(@zj _ _ _ _ _ (ux (i:=4) ["word"] ["house", "table", "k", "others", "rows"] sc_dealt_places.nd rfl rfl rfl (@zab _ _ _ _ (zi yr (hr.mono (by decide)) rfl (za (@z0 _ _ _ _ _ _ _ yh (zi f_hands_of (hr.mono (by decide)) rfl (za (pv 0) (@zb _))) (pv 2) (fun _ _=>rfl)) (@zb _)))) (fun _=>(zn (i:=0) (show(["word", "house", "table", "k", "others", "rows"]:List Str).Nodup by decide +kernel) rfl (Or.inl rfl))) (fun _=>(@z9 _)) (fun _=>(zi mt (hr.mono (by decide)) rfl (za (pv 4) (za (pv 3) (za (pv 0) (@zb _)))))) rfl (by decide +kernel) rfl rfl rfl) (@zh _ _ _ (@zm _ _ _ _ (yg ["row"] ["house", "table", "k", "others", "rows"] rfl (@yk _ _ _ _ (pv 4)) (fun _=>(zn (i:=0) (show(["row", "house", "table", "k", "others", "rows"]:List Str).Nodup by decide +kernel) rfl (Or.inl rfl))) (fun _=>(@z9 _)) (fun _=>(zi0 PySem.F.plainAttrs_tuple PySem.F.slot_tuple_index PySem.F.type_tuple_index zbi (zi f_outcomes_of (hr.mono (by decide)) rfl (za (pv 1) (@zb _))) (za (@rf _ _ _ _ _ _ (hu10 hr) (pv 2) (pv 0) (fun _ _=>rfl)) (@zb _)))) rfl (by decide +kernel) rfl rfl)))),?_⟩;rw[show start ["house", "table", "k", "others", "rows"] [V.ref p,V.ref t,V.int k,V.ref c]=[some (V.ref p),some (V.ref t),some (V.int k),some (V.ref c),none] from rfl]
    (try dsimp only[xp,e_C,e_op,e_rI,xq,xt,x6,xx,x9,y4,e_B,x0,e_or,wb,x5,x8,y9,xw,y3,xz,xu,xy,yi,xr,y0,wc,xv,y7,e_CB,e_BM,y8,e_iL,wa,y6,cxK,noxK,xc,yz,yl]);(try simp only[zf,ze,↓reduceIte])
    have hkl:k<ds.length:=(Zc.mp hd).1;obtain⟨x,hx⟩:∃x,hs[k]? = some x:=⟨hs[k]'(by rw[hH.hand.1];exact hkl),by simp⟩;obtain⟨wd,g,gs,hA⟩:=hH.hand.2 k x d hx hd;refine⟨p,_,_,rfl,.of hH.tup,rfl,h,rfl,_,.of hH.hands,_,zy (v:=V.ref x) (by rw[Ze,hx];rfl),?_⟩;refine⟨x,_,_,rfl,.of hA.tup,rfl,wd,rfl,⟨_,.of hA.words⟩,fun dd => ?_⟩;have w8:=(G.words1 d (Zi hd)).2;refine cx (xs:=d.words.map V.str) (PvTu H ot k d.words) ⟨Same.refl _,[],rfl,rfl,fun i a r e=>by simp at e⟩ ?_ ?_ ?_
    . rintro i ys H2 hi ⟨S2,as,rfl,T2⟩
      refine⟨?_,.of (S2 _ _ hA.words)⟩;rw[Za,T2.len,Za,Zj];exact Zd (ZB _ _) (Zd w8 (by decide))
    . rintro i y ys H2 hy ⟨S2,as,rfl,T2⟩
      obtain⟨u,hu,rfl⟩:=yp hy;simp only[zf,ze,↓reduceIte];refine⟨c,ot,k,u,rfl,S2 _ _ hc,hk,h8,fun H3 p3 S3 h3 => ?_⟩;refine⟨S2.trans S3,as++[p3],by simp,?_⟩;rw[Zq,hu,Zn];exact(T2.mono S3).append (TupsAt.one h3)
    . rintro ys H2 ⟨S2,as,rfl,T2⟩ l hl
      rw[Za,Zt]at T2;have S3:Same H2 (upd H2 l (.lst (as.map V.ref))):=Same.upd (Same.refl _) hl;have h3:upd H2 l (.lst (as.map V.ref)) l=some (.lst (as.map V.ref)):=zd;generalize upd H2 l (.lst (as.map V.ref))=H3 at *;have T3:=T2.mono S3;have S13:=S2.trans S3;refine⟨⟨_,.of h3⟩,fun dd => ?_⟩;refine yu (xs:=as.map V.ref) (PvPp H3 f outs ot k d.words) ⟨rfl,rfl⟩ ?_ ?_ ?_
      . rintro i ys H4 hi ⟨rfl,rfl⟩
        refine⟨?_,.of h3⟩;rw[Za,nI,Za,putP,Za,Zj];exact Zd (ZB _ _) (Zd w8 (by decide))
      . rintro i y ys H4 hy ⟨rfl,rfl⟩
        obtain⟨b,hb,rfl⟩:=kt hy;have hi:i<d.words.length:=by have:=(Zc.mp hb).1;have:=T3.len;rw[Za]at this;omega
        have hu:d.words[i]? = some d.words[i]:=Zb hi;have hrow:=T3.at' i b _ hb (by rw[Ze,hu];rfl);obtain⟨z1,z2⟩:=hD _ (Zl hi);generalize d.words[i]=u at *;have hval:valV (yb f rs) (z7 (insP ot k u))=some (V.str (f (insP ot k u))):=gr z1
        have gt:DGet H4 t (.ref b) (some (V.str (f (insP ot k u)))):=by
          have:=DGet.t (k:=z7 (insP ot k u)) (S13 _ _ ht) (b:=b) (by rw[wj];exact hrow)
          rwa [hval]at this
        simp only[zf,ze,↓reduceIte];have hH4:=hH.mono S13;refine⟨p,_,_,rfl,.of hH4.tup,rfl,⟨o,rfl,_,.of hH4.outs⟩,_,gt,o,rfl,_,.of hH4.outs,_,ow z2,rfl,?_⟩;rw[Zq,hu];simp[putP,nI]
      . rintro ys H4 ⟨rfl,rfl⟩ l2 hl2
        rw[Za,T3.len,Za,Zt];exact q _ l2 (S13.trans (Same.upd (Same.refl _) hl2)) zd
theorem j3 (D:zc K mg "worths_at" ph ["worths", "places"]):FnAt P w K mg base "worths_at" 1 ["worths", "places"] bu:=by
  refine FnAt.of D zdd (fun vs H Q E h => ?_) (fun f cdv A outer s H vs Q E hr h => ?_)
  . obtain⟨t,l,ns,ps,rfl,_⟩:=h
    rfl
  . obtain⟨t,l,ns,ps,rfl,ht,hl,hp,h8,q⟩:=h
    refine⟨_,(@zh _ _ _ (@zm _ _ _ _ (yg ["place"] ["worths", "places"] rfl (@yk _ _ _ _ (pv 1)) (fun _=>(zn (i:=0) (show(["place", "worths", "places"]:List Str).Nodup by decide +kernel) rfl (Or.inl rfl))) (fun _=>(@z9 _)) (fun _=>(@z0 _ _ _ _ _ _ _ yh (pv 1) (pv 0) (fun _ _=>rfl))) rfl (by decide +kernel) rfl rfl))),?_⟩;rw[show start ["worths", "places"] [V.ref t,V.ref l]=[some (V.ref t),some (V.ref l)] from rfl];simp only[zf,ze,↓reduceIte];refine⟨⟨_,.of hl⟩,fun dd => ?_⟩;refine yu (xs:=(nI ps).map V.int) (PvWa H ns ps) ⟨rfl,rfl⟩ ?_ ?_ ?_
    . rintro i ys H4 hi ⟨rfl,rfl⟩
      refine⟨?_,.of hl⟩;rw[Za,Za,Zj];exact Zd (ZB _ _) (Zd h8 (by decide))
    . rintro i y ys H4 hy ⟨rfl,rfl⟩
      obtain⟨z,hz,rfl⟩:=zka hy;rw[nI,Ze]at hz
      obtain⟨pl,hpl⟩:∃y,ps[i]? = some y:=by
        cases e:ps[i]? with
        | none=>rw[e]at hz;cases hz
        | some y=>exact⟨y,rfl⟩
      rw[hpl]at hz;cases hz;have lt:=hp pl (Zi hpl);have ex:ns[pl]? = some (ns.getD pl 0):=by rw[Zk,Zb lt];rfl
      simp only[zf,ze,↓reduceIte];refine⟨_,.of ht,_,l8 ex,rfl,?_⟩;rw[Zq,hpl,Zn,Zn];rfl
    . rintro ys H4 ⟨rfl,rfl⟩ l2 hl2
      rw[Za,nI,Za,Zt];exact q _ l2 (Same.upd (Same.refl _) hl2) zd
theorem o5 (B:Bt mg) (vi:FnAt P w K mg base "dealt_places" 2 ["house", "table", "k", "others"] zay) (j3:FnAt P w K mg base "worths_at" 1 ["worths", "places"] bu) (wq:FnAt P w K mg base "worths_of_hand" 1 ["hand"] (wz K 2)) (f_hands_of:FnAt P w K mg base "hands_of" 1 ["house"] (wz K 1)) (D:zc K mg "grid_of" jq ["house", "table", "k", "others"]):FnAt P w K mg base "grid_of" 3 ["house", "table", "k", "others"] ck:=by
  refine FnAt.of D sc_grid_of (fun vs H Q E h => ?_) (fun f cdv A outer s H vs Q E hr h => ?_)
  . obtain⟨p,o,h,t,c,hs,outs,ds,f,rs,ot,k,d,rfl,_⟩:=h
    rfl
  . obtain⟨p,o,h,t,c,hs,outs,ds,f,rs,ot,k,d,rfl,hH,G,ht,hd,hc,hD,q⟩:=h
    refine⟨_,(@zj _ _ _ _ _ (zw (i:=4) sc_grid_of.nd rfl (Or.inr rfl) (zi vi (hr.mono (by decide)) rfl (za (pv 0) (za (pv 1) (za (pv 2) (za (pv 3) (@zb _))))))) (@zh _ _ _ (@zm _ _ _ _ (yg ["worths"] ["house", "table", "k", "others", "places"] rfl (@zab _ _ _ _ (zi wq (hr.mono (by decide)) rfl (za (@z0 _ _ _ _ _ _ _ yh (zi f_hands_of (hr.mono (by decide)) rfl (za (pv 0) (@zb _))) (pv 2) (fun _ _=>rfl)) (@zb _)))) (fun _=>(zn (i:=0) (show(["worths", "house", "table", "k", "others", "places"]:List Str).Nodup by decide +kernel) rfl (Or.inl rfl))) (fun _=>(@z9 _)) (fun _=>(zi j3 (hr.mono (by decide)) rfl (za (pv 0) (za (pv 5) (@zb _))))) rfl (by decide +kernel) rfl rfl)))),?_⟩;rw[show start ["house", "table", "k", "others", "places"] [V.ref p,V.ref t,V.int k,V.ref c]=[some (V.ref p),some (V.ref t),some (V.int k),some (V.ref c),none] from rfl];simp only[zf,ze,↓reduceIte];refine⟨p,o,h,t,c,hs,outs,ds,f,rs,ot,k,d,rfl,hH,G,ht,hd,hc,hD,fun H1 l S1 hl => ?_⟩;have hkl:k<ds.length:=(Zc.mp hd).1;obtain⟨x,hx⟩:∃x,hs[k]? = some x:=⟨hs[k]'(by rw[hH.hand.1];exact hkl),by simp⟩;have hH1:=hH.mono S1;obtain⟨wd,g,gs,hA⟩:=hH1.hand.2 k x d hx hd;have hmd:=Zi hd;have w8:=(G.words1 d hmd).2;have ro:=G.rows d hmd;simp only[zf,ze,↓reduceIte];refine⟨p,_,_,rfl,.of hH1.tup,rfl,h,rfl,_,.of hH1.hands,_,zy (v:=V.ref x) (by rw[Ze,hx];rfl),?_⟩;refine⟨x,_,_,rfl,.of hA.tup,rfl,g,rfl,⟨_,.of hA.grid⟩,fun dd => ?_⟩
    have hps:∀p∈putP f outs ot k d.words,p<outs.length:=fun p hp=>by
      obtain⟨u,hu,rfl⟩:=Zp.mp hp;exact Zz.mpr (hD.2.2 u hu).2
    have lps:(putP f outs ot k d.words).length=d.words.length:=by rw[putP,Za]
    generalize putP f outs ot k d.words=ps at *;refine cx (xs:=gs.map V.ref) (PvCl H1 d ps) ⟨Same.refl _,[],rfl,rfl,fun i a r e=>by simp at e⟩ ?_ ?_ ?_
    . rintro i ys H2 hi ⟨S2,as,rfl,T2⟩
      refine⟨?_,.of (S2 _ _ hA.grid)⟩;rw[Za,T2.len,Zj,colP,Za];exact Zd (ZB _ _) (Zd (show _<=8 by omega) (by decide))
    . rintro i y ys H2 hy ⟨S2,as,rfl,T2⟩
      obtain⟨b,hb,rfl⟩:=kt hy;have hi:i<d.worths.length:=by have:=(Zc.mp hb).1;have:=hA.len;omega
      have er:d.worths[i]? = some d.worths[i]:=Zb hi;have hrow:=S2 _ _ (hA.row i b _ hb er);have hcl:=G.cols d hmd _ (Zl hi);simp only[zf,ze,↓reduceIte];refine⟨b,l,d.worths[i],ps,rfl,hrow,S2 _ _ hl,fun p hp=>by rw[hcl];exact hps p hp,by omega,fun H3 l3 S3 h3 => ?_⟩;refine⟨S2.trans S3,as++[l3],by simp,?_⟩;rw[Zq,colP,Ze,er];exact(T2.mono S3).snoc h3
    . rintro ys H2 ⟨S2,as,rfl,T2⟩ l2 hl2
      rw[Za,hA.len,ZG (by rw[colP,Za];exact Zm _)]at T2;have S3:Same H2 (upd H2 l2 (.lst (as.map V.ref))):=Same.upd (Same.refl _) hl2;exact q _ l2 as (S1.trans (S2.trans S3)) zd (T2.mono S3)
end
def dueK(ds:List HD)(m:Nat):List (Nat×List Str):=(List.range m).flatMap fun k=>(zz ((ds.eraseIdx k).map HD.words)).map fun o=>(k,o)
theorem jt(ds:List HD)(m:Nat):dueK ds (m+1)=dueK ds m++(zz ((ds.eraseIdx m).map HD.words)).map fun o=>(m,o):=by
  rw[dueK,Yu,List.flatMap_append];simp[dueK]
def ww(f:List Str->Str)(outs:List Str)(ds:List HD)(x:Nat×List Str):List (List Int):=match ds[x.1]? with
  | some d=>colP d (putP f outs x.2 x.1 d.words)
  | none=>[]
def ub(ds:List HD)(x:Nat×List Str):Nat:=match ds[x.1]? with
  | some d=>d.words.length
  | none=>0
theorem lq{f:List Str->Str}{outs:List Str}{ds:List HD}{k:Nat}{o:List Str}{d:HD}(h:ds[k]? = some d):ww f outs ds (k,o)=colP d (putP f outs o k d.words):=by rw[ww];simp only[h]
theorem jd{ds:List HD}{k:Nat}{o:List Str}{d:HD}(h:ds[k]? = some d):ub ds (k,o)=d.words.length:=by rw[ub];simp only[h]
def bc(f:List Str->Str)(rs:List (List Str))(outs:List Str)(ds:List HD):Prop:=∀(k:Nat) (d:HD) (o:List Str),ds[k]? = some d->o∈zz ((ds.eraseIdx k).map HD.words)->e8 f rs outs o k d
structure GridsAt(H:Hp)(as:List Addr)(xs:List (Nat×List Str))(F:Nat×List Str->List (List Int)):Prop where
  len:as.length=xs.length
  at':∀(i:Nat) (a:Addr) (x:Nat×List Str),as[i]? = some a->xs[i]? = some x->∃c g ls,H a=some (.tup [.int x.1,.ref c,.ref g])/\H c=some (.tup (x.2.map V.str))/\H g=some (.lst (ls.map V.ref))/\IntsAt H ls (F x)
theorem GridsAt.mono{H H':Hp}{as:List Addr}{xs:List (Nat×List Str)}{F:Nat×List Str->List (List Int)}(S:Same H H')(h:GridsAt H as xs F):GridsAt H' as xs F:=⟨h.len,fun i a x e1 e2=>by
  obtain⟨c,g,ls,h1,h2,h3,h4⟩:=h.at' i a x e1 e2
  exact⟨c,g,ls,S _ _ h1,S _ _ h2,S _ _ h3,h4.mono S⟩⟩
theorem zc9{α β:Type}{as bs:List α}{xs ys:List β}{i:Nat}{a:α}{x:β}(hl:as.length=xs.length)(e1:(as++bs)[i]? = some a)(e2:(xs++ys)[i]? = some x):(as[i]? = some a/\xs[i]? = some x)\/(bs[i-as.length]? = some a/\ys[i-as.length]? = some x):=by
  by_cases hi:i<as.length
  . rw[Zg hi]at e1
    rw[Zg (by omega)]at e2;exact .inl ⟨e1,e2⟩
  . rw[Zf (by omega)]at e1
    rw[Zf (by omega)]at e2;rw[<-hl]at e2;exact .inr ⟨e1,e2⟩
theorem GridsAt.append{H:Hp}{as bs:List Addr}{xs ys:List (Nat×List Str)}{F:Nat×List Str->List (List Int)}(h:GridsAt H as xs F)(h':GridsAt H bs ys F):GridsAt H (as++bs) (xs++ys) F:=⟨by simp[h.len,h'.len],fun i a x e1 e2=>by
  rcases zc9 h.len e1 e2 with ⟨z1,z2⟩ | ⟨z1,z2⟩
  . exact h.at' i a x z1 z2
  . exact h'.at' _ a x z1 z2⟩
theorem GridsAt.one{H:Hp}{a c g:Addr}{ls:List Addr}{x:Nat×List Str}{F:Nat×List Str->List (List Int)}(h1:H a=some (.tup [.int x.1,.ref c,.ref g]))(h2:H c=some (.tup (x.2.map V.str)))(h3:H g=some (.lst (ls.map V.ref)))(h4:IntsAt H ls (F x)):GridsAt H [a] [x] F:=⟨rfl,fun i b y e1 e2=>by
  have:i=0:=by have:=(Zc.mp e1).1;simp at this;omega
  subst this;cases e1;cases e2
  exact⟨c,g,ls,h1,h2,h3,h4⟩⟩
def zbk:Sp:=fun vs H Q _=>∃(p o h t:Addr) (hs:List Addr) (outs:List Str) (ds:List HD) (f:List Str->Str) (rs:List (List Str)),vs=[.ref p,.ref t]/\HHouse H p o h hs outs ds/\GoodHouse outs ds/\H t=some (.dT (yb f rs))/\bc f rs outs ds /\
  ∀H' l as,Same H H'->H l=none->H' l=some (.lst (as.map V.ref))->GridsAt H' as (dueK ds ds.length) (ww f outs ds)->Q (.ref l) H'
def ij(rows:List (List Int))(n:Nat):Prop:=∀j,NoNeg (z8 rows) n j
structure PaperAt(H:Hp)(a:Addr)(k:Nat)(c:Addr)(gs:List (Int×List Nat×Addr)):Prop where
  ex:∃pl rl,H a=some (.tup [.int k,.ref c,.ref pl,.ref rl])/\H pl=some (.lst ((gs.map fun e=>e.1).map V.int))/\H rl=some (.lst (gs.map fun e=>V.ref e.2.2))
  road:∀e∈gs,H e.2.2=some (.lst ((nI e.2.1).map V.int))
theorem PaperAt.mono{H H':Hp}{a:Addr}{k:Nat}{c:Addr}{gs:List (Int×List Nat×Addr)}(S:Same H H')(h:PaperAt H a k c gs):PaperAt H' a k c gs:=by
  obtain⟨pl,rl,h1,h2,h3⟩:=h.ex;exact⟨⟨pl,rl,S _ _ h1,S _ _ h2,S _ _ h3⟩,fun e he=>S _ _ (h.road e he)⟩
def zfo(K:Fg):Sp:=fun vs H Q _=>∃(k:Nat) (c g:Addr) (rows:List (List Int)) (n:Nat),vs=[.int k,.ref c,.ref g]/\Gd K H g rows n/\0<n/\ij rows n/\∀H' a gs,Same H H'->PaperAt H' a k c gs->Great rows n gs->Q (.ref a) H'
structure PapersAt(H:Hp)(as:List Addr)(xs:List (Nat×List Str))(F:Nat×List Str->List (List Int))(W:Nat×List Str->Nat):Prop where
  len:as.length=xs.length
  at':∀(i:Nat) (a:Addr) (x:Nat×List Str),as[i]? = some a->xs[i]? = some x->∃c gs,PaperAt H a x.1 c gs/\H c=some (.tup (x.2.map V.str))/\Great (F x) (W x) gs
theorem PapersAt.mono{H H':Hp}{as:List Addr}{xs:List (Nat×List Str)}{F:Nat×List Str->List (List Int)}{W:Nat×List Str->Nat}(S:Same H H')(h:PapersAt H as xs F W):PapersAt H' as xs F W:=⟨h.len,fun i a x e1 e2=>by
  obtain⟨c,gs,h1,h2,h3⟩:=h.at' i a x e1 e2
  exact⟨c,gs,h1.mono S,S _ _ h2,h3⟩⟩
theorem PapersAt.snoc{H:Hp}{as:List Addr}{xs:List (Nat×List Str)}{F:Nat×List Str->List (List Int)}{W:Nat×List Str->Nat}{a c:Addr}{x:Nat×List Str}{gs:List (Int×List Nat×Addr)}(h:PapersAt H as xs F W)(h1:PaperAt H a x.1 c gs)(h2:H c=some (.tup (x.2.map V.str)))(h3:Great (F x) (W x) gs):PapersAt H (as++[a]) (xs++[x]) F W:=⟨by simp[h.len],fun i b y e1 e2=>by
  rcases zc9 h.len e1 e2 with ⟨z1,z2⟩ | ⟨z1,z2⟩
  . exact h.at' i b y z1 z2
  . have:i-as.length=0:=by have:=(Zc.mp z1).1;simp at this;omega
    rw[this]at z1 z2;cases z1;cases z2
    exact⟨c,gs,h1,h2,h3⟩⟩
def zbo(K:Fg):Sp:=fun vs H Q _=>∃(p o h t:Addr) (hs:List Addr) (outs:List Str) (ds:List HD) (f:List Str->Str) (rs:List (List Str)),vs=[.ref p,.ref t]/\HHouse H p o h hs outs ds/\GoodHouse outs ds/\H t=some (.dT (yb f rs))/\bc f rs outs ds /\
  (∀H' tp l as,Same H H'->H' tp=some (.tup [.str "pays", .ref l])->H' l=some (.lst (as.map V.ref))->PapersAt H' as (dueK ds ds.length) (ww f outs ds) (ub ds)->Q (.ref tp) H') /\
  ∀(H':Hp) (tp c l:Addr) (i:Nat) (x:Nat×List Str) (cy:List Nat),Same H H'->(dueK ds ds.length)[i]? = some x->(∀(j:Nat) (y:Nat×List Str),j<i->(dueK ds ds.length)[j]? = some y->ij (ww f outs ds y) (ub ds y))->H' tp=some (.tup [.str "ring", .int x.1,.ref c,.ref l])->H' c=some (.tup (x.2.map V.str))->H' l=some (.lst ((nI cy).map V.int))->RingA (z8 (ww f outs ds x)) (ub ds x) cy->Q (.ref tp) H'
theorem ce{outs:List Str}{ds:List HD}(G:GoodHouse outs ds):∀m,m<=ds.length->(dueK ds m).length<=m*4096
  | 0,_=>by simp[dueK]
  | m+1,h=>by
    have ih:=ce G m (by omega);have h4:=G.hands.2
    have few:=ug (wss:=(ds.eraseIdx m).map HD.words) (by rw[Za,ZO (by omega)];omega) (fun ws hws=>by
      obtain⟨d,hd,rfl⟩:=Zp.mp hws
      exact(G.words1 d (Yd hd)).2) _ (Zm _)
    rw[Zt]at few;rw[jt,Zo,Za];omega
theorem cp{ds:List HD}{m:Nat}{x:Nat×List Str}(h:x∈dueK ds m):x.1<m/\x.2∈zz ((ds.eraseIdx x.1).map HD.words):=by
  rw[dueK,List.mem_flatMap]at h;obtain⟨k,hk,h⟩:=h;obtain⟨o,ho,rfl⟩:=Zp.mp h;exact⟨ZP.mp hk,ho⟩
theorem GridsAt.past{H:Hp}{l:Addr}{o:HO}{as0 cs:List Addr}{xs:List (Nat×List Str)}{F:Nat×List Str->List (List Int)}(hl:H l=some (.lst (as0.map V.ref)))(h0:∀a∈as0,∃us,H a=some (.tup us))(ne:∀x∈xs,F x≠[]/\∀r∈F x,r≠[])(h:GridsAt H cs xs F):GridsAt (upd H l o) cs xs F:=⟨h.len,fun i a x e1 e2=>by
  obtain⟨c,g,ls,h1,h2,h3,h4⟩:=h.at' i a x e1 e2;obtain⟨n1,n2⟩:=ne x (Zi e2);have k1:a≠l:=fun e=>by rw[e,hl]at h1;cases h1
  have k2:c≠l:=fun e=>by rw[e,hl]at h2;cases h2
  have k4:∀r∈ls,r≠l:=fun r hr e=>by
    obtain⟨j,hj,rfl⟩:=Zy hr;have hj2:j<(F x).length:=by rw[<-h4.len];exact hj
    have:=h4.at' j _ _ (Zb hj) (Zb hj2);rw[e,hl]at this;have nz:=n2 _ (Zl hj2);generalize (F x)[j]=p at *
    cases p with
    | nil=>exact nz rfl
    | cons z p=>cases as0 <;> simp at this
  have k3:g≠l:=fun e=>by
    rw[e,hl]at h3;have z:as0.map V.ref=ls.map V.ref:=by simpa using h3
    have hl0:0<ls.length:=by
      rw[h4.len]
      cases e:F x with
      | nil=>exact absurd e n1
      | cons _ _=>simp
    have hl1:0<as0.length:=by have:=congrArg List.length z;simp at this;omega
    have hj2:0<(F x).length:=by rw[<-h4.len];exact hl0
    have r1:=h4.at' 0 _ _ (Zb hl0) (Zb hj2)
    have ee:as0[0]=ls[0]:=by
      have:=congrArg (fun q=>q[0]?) z
      simpa[Ze,Zb hl0,Zb hl1] using this
    obtain⟨us,hu⟩:=h0 _ (Zl hl1);rw[ee,r1]at hu;cases hu
  refine⟨c,g,ls,by rw[zp k1];exact h1,by rw[zp k2];exact h2,by rw[zp k3];exact h3,h4.len,fun j r p e3 e4 => ?_⟩;rw[zp (k4 r (Zi e3))]
  exact h4.at' j r p e3 e4⟩
theorem GridsAt.tup{H:Hp}{as:List Addr}{xs:List (Nat×List Str)}{F:Nat×List Str->List (List Int)}(h:GridsAt H as xs F):∀a∈as,∃us,H a=some (.tup us):=fun a ha=>by
  obtain⟨j,hj,rfl⟩:=Zy ha;have hj2:j<xs.length:=by rw[<-h.len];exact hj
  obtain⟨c,g,ls,h1,_⟩:=h.at' j _ _ (Zb hj) (Zb hj2);exact⟨_,h1⟩
theorem zcf{f:List Str->Str}{outs:List Str}{ds:List HD}(G:GoodHouse outs ds){x:Nat×List Str}(h:x.1<ds.length):ww f outs ds x≠[]/\∀r∈ww f outs ds x,r≠[]:=by
  obtain⟨k,o⟩:=x;have hd:ds[k]? = some ds[k]:=Zb h;have hm:=Zl h;have w1:=(G.words1 _ hm).1;have ro:=G.rows _ hm;rw[lq hd];generalize ds[k]=d at *;refine⟨fun e => ?_,fun r hr e => ?_⟩
  . have:=congrArg List.length e
    rw[colP,Za]at this;simp at this;rw[this]at ro;simp at ro;omega
  . obtain⟨r',_,rfl⟩:=Zp.mp hr
    have:=congrArg List.length e;rw[Za,putP,Za]at this;simp at this;rw[this]at w1;simp at w1
def PvGs(p t:Addr)(ds:List HD)(F:Nat×List Str->List (List Int))(H:Hp)(i:Nat)(σ:L2.St)(H':Hp):Prop:=∃(l:Addr) (as:List Addr) (v:Option V),Same H H'/\H l=none/\H' l=some (.lst (as.map V.ref))/\GridsAt H' as (dueK ds i) F/\σ=[some (.ref p),some (.ref t),some (.ref l),v]
def PvG3(k:Nat)(os:List (List Str))(F:Nat×List Str->List (List Int))(H:Hp)(i:Nat)(ys:List V)(H':Hp):Prop:=Same H H'/\∃as:List Addr,ys=as.map V.ref/\GridsAt H' as ((os.take i).map fun o=>(k,o)) F
section
variable{P:Program}{w:World}{K:Fg}{mg:Str->Option Value}{base:Heap}{a:Ad}
theorem gx (B:Bt mg) (f_hands_of:FnAt P w K mg base "hands_of" 1 ["house"] (wz K 1)) (o5:FnAt P w K mg base "grid_of" 3 ["house", "table", "k", "others"] ck) (v8:FnAt P w K mg base "others_of" 3 ["house", "k"] (mh K)) (D:zc K mg "grids_of" mx ["house", "table"]):FnAt P w K mg base "grids_of" 4 ["house", "table"] zbk:=by
  refine FnAt.of D sc_grids_of (fun vs H Q E h => ?_) (fun f cdv A outer s H vs Q E hr h => ?_)
  . obtain⟨p,o,h,t,hs,outs,ds,f,rs,rfl,_⟩:=h
    rfl
  . obtain⟨p,o,h,t,hs,outs,ds,f,rs,rfl,hH,G,ht,hD,q⟩:=h
    refine⟨_,(@zj _ _ _ _ _ (zw (i:=2) sc_grids_of.nd rfl (Or.inl rfl) (@w9 _ _ _ _ (@zb _))) (@zj _ _ _ _ _ (we PassesOwn.never rfl (yv rfl B.range (za (zq zt rfl B.len yc (za (zi f_hands_of (hr.mono (by decide)) rfl (za (pv 0) (@zb _))) (@zb _))) (@zb _))) (zn (i:=3) sc_grids_of.nd rfl (Or.inr rfl)) (@zh _ _ _ (rh (qo PySem.F.plainAttrs_list PySem.F.slot_list_extend PySem.F.type_list_extend za4 (pv 2) (za (yg ["others"] ["house", "table", "grids", "k"] rfl (@yk _ _ _ _ (zi v8 (hr.mono (by decide)) rfl (za (pv 0) (za (pv 3) (@zb _))))) (fun _=>(zn (i:=0) (show(["others", "house", "table", "grids", "k"]:List Str).Nodup by decide +kernel) rfl (Or.inl rfl))) (fun _=>(@z9 _)) (fun _=>(@wg _ _ _ _ _ (za (pv 4) (za (pv 0) (za (zi o5 (hr.mono (by decide)) rfl (za (pv 1) (za (pv 2) (za (pv 4) (za (pv 0) (@zb _)))))) (@zb _)))))) rfl (by decide +kernel) rfl rfl) (@zb _)))))) (@zh _ _ _ (@zm _ _ _ _ (pv 2))))),?_⟩;rw[show start ["house", "table", "grids", "k"] [V.ref p,V.ref t]=[some (V.ref p),some (V.ref t),none,none] from rfl]
    (try dsimp only[xp,e_C,e_op,e_rI,xq,xt,x6,xx,x9,y4,e_B,x0,e_or,wb,x5,x8,y9,xw,y3,xz,xu,xy,yi,xr,y0,wc,xv,y7,e_CB,e_BM,y8,e_iL,wa,y6,cxK,noxK,xc,yz,yl]);(try simp only[zf,ze,↓reduceIte])
    refine⟨by decide,fun l0 hl0 => ?_⟩;have S1:Same H (upd H l0 (.lst [])):=Same.upd (Same.refl _) hl0;have h1:upd H l0 (.lst []) l0=some (.lst (([]:List Addr).map V.ref)):=zd;generalize upd H l0 (.lst [])=H1 at *;have hH1:=hH.mono S1;have h4:=G.hands.2;refine⟨p,_,_,rfl,.of hH1.tup,rfl,h,rfl,_,.inr (.of hH1.hands),?_⟩;rw[Za,hH1.hand.1];refine⟨by omega,by omega,?_⟩;rw[Zw];refine vg (PvGs p t ds (ww f outs ds) H) ⟨l0,[],_,S1,hl0,h1,⟨rfl,fun i a x e=>by simp at e⟩,rfl⟩ ?_ ?_
    . rintro k σ H2 hk ⟨l,as,v,S2,hn,h2,G2,rfl⟩
      have hd:ds[k]? = some ds[k]:=Zb hk;have hH2:=hH.mono S2;simp only[zf,ze,↓reduceIte];refine⟨.inl ⟨rfl,_,.of h2⟩,?_⟩;refine⟨p,o,h,hs,outs,ds,k,rfl,hH2.k,hk,h4,fun d hd=>(G.words1 d hd).2,fun H3 rl bs S3 _ R3=>⟨rl,rfl,⟨_,.of R3.lst⟩,fun dd => ?_⟩⟩
      have few:=ug (wss:=(ds.eraseIdx k).map HD.words) (by rw[Za,ZO hk];omega) (fun ws hws=>by
        obtain⟨d,hd,rfl⟩:=Zp.mp hws
        exact(G.words1 d (Yd hd)).2) _ (Zm _)
      rw[Zt]at few;have hin:∀r∈zz ((ds.eraseIdx k).map HD.words),e8 f rs outs r k ds[k]:=fun r hr=>hD k _ r hd hr
      have hsu:=jt ds k;have fk:=ce G k (by omega);generalize zz ((ds.eraseIdx k).map HD.words)=os at *;refine yu (xs:=bs.map V.ref) (PvG3 k os (ww f outs ds) H3) ⟨Same.refl _,[],rfl,rfl,fun i a x e=>by simp at e⟩ ?_ ?_ ?_
      . rintro i ys H4 hi ⟨S4,cs,rfl,T4⟩
        refine⟨?_,.of (S4 _ _ R3.lst)⟩;rw[Za,T4.len,Za,Zj];exact Zd (ZB _ _) (Zd few (by decide))
      . rintro i y ys H4 hy ⟨S4,cs,rfl,T4⟩
        obtain⟨c,hc,rfl⟩:=kt hy;have hi:i<os.length:=by have:=(Zc.mp hc).1;have:=R3.tups.len;omega
        have eo:os[i]? = some os[i]:=Zb hi;have hc4:=S4 _ _ (R3.tups.at' i c _ hc eo);have hdl:=hin _ (Zl hi);have S24:=S2.trans (S3.trans S4);simp only[zf,ze,↓reduceIte];refine⟨p,o,h,t,c,hs,outs,ds,f,rs,os[i],k,ds[k],rfl,hH.mono S24,G,S24 _ _ ht,hd,hc4,hdl,fun H5 g ls S5 hg I5=>⟨by decide,fun tp htp => ?_⟩⟩;have S6:Same H5 (upd H5 tp (.tup [V.int k,V.ref c,V.ref g])):=Same.upd (Same.refl _) htp;refine⟨S4.trans (S5.trans S6),cs++[tp],by simp,?_⟩;rw[Zq,eo,Zn];exact(T4.mono (S5.trans S6)).append (GridsAt.one (x:=(k,os[i])) zd ((S5.trans S6) _ _ hc4) (S6 _ _ hg) (by rw[lq hd];exact I5.mono S6))
      . rintro ys H4 ⟨S4,cs,rfl,T4⟩ l2 hl2
        rw[Za,R3.tups.len,Zt]at T4;have S5:Same H4 (upd H4 l2 (.lst (cs.map V.ref))):=Same.upd (Same.refl _) hl2;have h5:upd H4 l2 (.lst (cs.map V.ref)) l2=some (.lst (cs.map V.ref)):=zd;generalize upd H4 l2 (.lst (cs.map V.ref))=H5 at *;have S25:=S3.trans (S4.trans S5);have hl5:=S25 _ _ h2;have GG:=(G2.mono S25).append (T4.mono S5);rw[<-hsu]at GG;refine⟨_,hl5,_,h5,?_,l,as++cs,_,Same.upd (S2.trans S25) hn,hn,by rw[zd,Zn],?_,rfl⟩
        . rw[Za,Za,G2.len,T4.len,Za]
          exact Zd (show _<=4*4096+4096 by omega) (by decide)
        . exact GG.past hl5 (G2.mono S25).tup fun x hx=>zcf G (by have:=(cp hx).1;omega)
    . rintro σ H2 ⟨l,as,v,S2,hn,h2,G2,rfl⟩
      simp only[zf,ze,↓reduceIte];exact q H2 l as S2 hn h2 G2
end
theorem zcn{rows:List (List Int)}{n:Nat}{c:List Nat}(no:ij rows n)(R:RingA (z8 rows) n c):False:=by
  have h1:=NoNeg.rnd (no c.length) rfl R.lt;have:=R.neg;omega
theorem zen{ns:List Int}{as0:List Addr}(h:ns.map V.int=as0.map V.ref):ns=[]:=by
  cases ns with
  | nil=>rfl
  | cons z p=>cases as0 <;> simp at h
theorem PaperAt.past{H:Hp}{l a c:Addr}{o:HO}{k:Nat}{as0:List Addr}{gs:List (Int×List Nat×Addr)}(hl:H l=some (.lst (as0.map V.ref)))(h0:∀a∈as0,∃us,H a=some (.tup us))(h:PaperAt H a k c gs)(ne:gs≠[])(nr:∀e∈gs,e.2.1≠[]):PaperAt (upd H l o) a k c gs:=by
  obtain⟨pl,rl,h1,h2,h3⟩:=h.ex;have k1:a≠l:=fun e=>by rw[e,hl]at h1;cases h1
  have k2:pl≠l:=fun e=>by
    rw[e,hl]at h2;have z:as0.map V.ref=(gs.map fun e=>e.1).map V.int:=by simpa using h2
    have:=zen z.symm;simp at this;exact ne this
  have k4:∀e∈gs,e.2.2≠l:=fun e he q=>by
    have hr:=h.road e he;rw[q,hl]at hr;have z:as0.map V.ref=(nI e.2.1).map V.int:=by simpa using hr
    have:=zen z.symm;rw[nI]at this;simp at this;exact nr e he this
  have k3:rl≠l:=fun e=>by
    rw[e,hl]at h3;have z:as0.map V.ref=gs.map fun e=>V.ref e.2.2:=by simpa using h3
    cases gs with
    | nil=>exact ne rfl
    | cons g gs =>
      cases as0 with
      | nil=>simp at z
      | cons b as0 =>
        simp at z;obtain⟨us,hu⟩:=h0 b ZA;have hr:=h.road g ZA;rw[<-z.1,hu]at hr;cases hr
  exact⟨⟨pl,rl,by rw[zp k1];exact h1,by rw[zp k2];exact h2,by rw[zp k3];exact h3⟩,fun e he=>by rw[zp (k4 e he)];exact h.road e he⟩
theorem Great.ne{rows:List (List Int)}{n:Nat}{gs:List (Int×List Nat×Addr)}(g:Great rows n gs)(h:0<n):gs≠[]/\∀e∈gs,e.2.1≠[]:=by
  refine⟨fun e => ?_,fun e he q => ?_⟩
  . have:=g.len
    rw[e]at this;simp at this;omega
  . obtain⟨t,ht,rfl⟩:=Zy he
    obtain⟨s,ws,e1,_⟩:=(g.rds.rd t (by rw[<-g.len];exact ht)).ex;rw[ul (Zb ht)]at e1;have e1':(gs[t]).2.1=s::ws:=e1;rw[q]at e1';cases e1'
theorem PapersAt.past{H:Hp}{l:Addr}{o:HO}{as0 as:List Addr}{xs:List (Nat×List Str)}{F:Nat×List Str->List (List Int)}{W:Nat×List Str->Nat}(hl:H l=some (.lst (as0.map V.ref)))(h0:∀a∈as0,∃us,H a=some (.tup us))(hw:∀x∈xs,0<W x)(h:PapersAt H as xs F W):PapersAt (upd H l o) as xs F W:=⟨h.len,fun i a x e1 e2=>by
  obtain⟨c,gs,h1,h2,h3⟩:=h.at' i a x e1 e2;obtain⟨n1,n2⟩:=h3.ne (hw x (Zi e2))
  exact⟨c,gs,h1.past hl h0 n1 n2,by rw[zp (fun e=>by rw[e,hl]at h2;cases h2)];exact h2,h3⟩⟩
theorem PapersAt.tup{H:Hp}{as:List Addr}{xs:List (Nat×List Str)}{F:Nat×List Str->List (List Int)}{W:Nat×List Str->Nat}(h:PapersAt H as xs F W):∀a∈as,∃us,H a=some (.tup us):=fun a ha=>by
  obtain⟨j,hj,rfl⟩:=Zy ha;have hj2:j<xs.length:=by rw[<-h.len];exact hj
  obtain⟨c,gs,h1,_⟩:=h.at' j _ _ (Zb hj) (Zb hj2);obtain⟨pl,rl,z,_⟩:=h1.ex;exact⟨_,z⟩
theorem gh{outs:List Str}{ds:List HD}(G:GoodHouse outs ds){x:Nat×List Str}(h:x.1<ds.length):0<ub ds x/\ub ds x<=8:=by
  obtain⟨k,o⟩:=x;rw[jd (Zb h)];have:=G.words1 _ (Zl h);omega
theorem zkh{K:Fg}{H:Hp}{g:Addr}{ls:List Addr}{f:List Str->Str}{outs:List Str}{ds:List HD}(G:GoodHouse outs ds){x:Nat×List Str}(h:x.1<ds.length)(hg:H g=some (.lst (ls.map V.ref)))(I:IntsAt H ls (ww f outs ds x)):Gd K H g (ww f outs ds x) (ub ds x):=by
  have h8:=(gh G h).2;obtain⟨k,o⟩:=x;have hd:ds[k]? = some ds[k]:=Zb h;have ro:=G.rows _ (Zl h);have e1:=lq (f:=f) (outs:=outs) (o:=o) hd;have e2:=jd (o:=o) hd;have lr:(ww f outs ds (k,o)).length=ub ds (k,o):=by rw[e1,e2,colP,Za];exact ro
  refine⟨⟨ls,⟨.of hg,by rw[I.len],fun i r ns a1 a2=>.of (I.at' i r ns a1 a2)⟩,by rw[I.len,lr]⟩,fun i hi=>⟨(ww f outs ds (k,o))[i]'(by omega),Zb (by omega),?_⟩,h8⟩;have hm:(ww f outs ds (k,o))[i]'(by omega)∈ww f outs ds (k,o):=Zl _;generalize (ww f outs ds (k,o))[i]'(by omega)=r at *;rw[e1]at hm;obtain⟨r',_,rfl⟩:=Zp.mp hm;rw[Za,putP,Za,e2]
def PvVd(p t l gl:Addr)(gas:List Addr)(xs:List (Nat×List Str))(F:Nat×List Str->List (List Int))(W:Nat×List Str->Nat)(H:Hp)(i:Nat)(σ:L2.St)(H':Hp):Prop:=∃(as:List Addr) (v1 v2 v3 v4:Option V),Same H H'/\H' l=some (.lst (as.map V.ref))/\H' gl=some (.lst (gas.map V.ref))/\GridsAt H' gas xs F/\PapersAt H' as (xs.take i) F W/\(∀(j:Nat) (y:Nat×List Str),j<i->xs[j]? = some y->ij (F y) (W y))/\σ=[some (.ref p),some (.ref t),some (.ref l),v1,v2,v3,v4]
section
variable{P:Program}{w:World}{K:Fg}{mg:Str->Option Value}{base:Heap}{a:Ad}
theorem zai (B:Bt mg) (ql:FnAtX P w K mg base "greatest" 7 ["grid"] (zap a K)) (D:zc K mg "paper" e7 ["k", "others", "grid"]):FnAt P w K mg base "paper" 8 ["k", "others", "grid"] (zfo K):=by
  refine FnAt.of D sc_paper (fun vs H Q E h => ?_) (fun f cdv A outer s H vs Q E hr h => ?_)
  . obtain⟨k,c,g,rows,n,rfl,_⟩:=h
    rfl
  . obtain⟨k,c,g,rows,n,rfl,hG,h0,no,q⟩:=h
    refine⟨_,(@zj _ _ _ _ _ (zw (i:=3) sc_paper.nd rfl (Or.inl rfl) (gp ql (hr.mono (by decide)) rfl (za (pv 2) (@zb _)))) (@zh _ _ _ (@zm _ _ _ _ (@wg _ _ _ _ _ (za (pv 0) (za (pv 1) (za (@z0 _ _ _ _ _ _ _ yh (pv 3) (@zg _ _ _ _) (fun _ _=>rfl)) (za (@z0 _ _ _ _ _ _ _ yh (pv 3) (@zg _ _ _ _) (fun _ _=>rfl)) (@zb _))))))))),?_⟩;rw[show start ["k", "others", "grid", "told"] [V.int k,V.ref c,V.ref g]=[some (V.int k),some (V.ref c),some (V.ref g),none] from rfl];simp only[zf,ze,↓reduceIte];refine⟨g,rows,n,rfl,hG,h0,fun H1 v gs S1 Td Gt => ?_,fun H1 cc S1 R=>(zcn no R).elim⟩;obtain⟨tp,pl,rl,rfl,d1,d2,d3⟩:=Td.ex;simp only[zf,ze,↓reduceIte];refine⟨_,.of d1,_,rfl,_,.of d1,_,rfl,by decide,fun p hp => ?_⟩;have S2:Same H1 (upd H1 p (.tup [V.int k,V.ref c,V.ref pl,V.ref rl])):=Same.upd (Same.refl _) hp;exact q _ p gs (S1.trans S2) ⟨⟨pl,rl,zd,S2 _ _ d2,S2 _ _ d3⟩,fun e he=>S2 _ _ (Td.road e he)⟩ Gt
theorem g9 (B:Bt mg) (gx:FnAt P w K mg base "grids_of" 4 ["house", "table"] zbk) (fh:FnAt P w K mg base "ring" 5 ["grid"] (zda K)) (zai:FnAt P w K mg base "paper" 8 ["k", "others", "grid"] (zfo K)) (D:zc K mg "verdict" jo ["house", "table"]):FnAt P w K mg base "verdict" 9 ["house", "table"] (zbo K):=by
  refine FnAt.of D sc_verdict (fun vs H Q E h => ?_) (fun f cdv A outer s H vs Q E hr h => ?_)
  . obtain⟨p,o,h,t,hs,outs,ds,f,rs,rfl,_⟩:=h
    rfl
  . obtain⟨p,o,h,t,hs,outs,ds,f,rs,rfl,hH,G,ht,hD,q1,q2⟩:=h
    refine⟨_,(@zj _ _ _ _ _ (zw (i:=2) sc_verdict.nd rfl (Or.inl rfl) (@w9 _ _ _ _ (@zb _))) (@zj _ _ _ _ _ (we PassesOwn.never rfl (@yk _ _ _ _ (zi gx (hr.mono (by decide)) rfl (za (pv 0) (za (pv 1) (@zb _))))) (si rfl (yx (zn (i:=3) sc_verdict.nd rfl (Or.inl rfl)) (yx (zn (i:=4) sc_verdict.nd rfl (Or.inl rfl)) (yx (zn (i:=5) sc_verdict.nd rfl (Or.inl rfl)) (@uw _))))) (@zj _ _ _ _ _ (zw (i:=6) sc_verdict.nd rfl (Or.inl rfl) (zi fh (hr.mono (by decide)) rfl (za (pv 5) (@zb _)))) (@zj _ _ _ _ _ (@xg _ _ _ _ _ _ _ _ (@yn _ _ _ _ _ _ _ _ za2 (pv 6) (@oy _ _ _) (yt _)) (@zh _ _ _ (@zm _ _ _ _ (@wg _ _ _ _ _ (za (@rk _ _ _ _) (za (pv 3) (za (pv 4) (za (pv 6) (@zb _)))))))) (@ye _)) (@zh _ _ _ (rh (qo PySem.F.plainAttrs_list PySem.F.slot_list_append PySem.F.type_list_append je (pv 2) (za (zi zai (hr.mono (by decide)) rfl (za (pv 3) (za (pv 4) (za (pv 5) (@zb _))))) (@zb _)))))))) (@zh _ _ _ (@zm _ _ _ _ (@wg _ _ _ _ _ (za (@rk _ _ _ _) (za (pv 2) (@zb _)))))))),?_⟩;rw[show start ["house", "table", "papers", "k", "others", "grid", "found"] [V.ref p,V.ref t]=[some (V.ref p),some (V.ref t),none,none,none,none,none] from rfl]
    (try dsimp only[xp,e_C,e_op,e_rI,xq,xt,x6,xx,x9,y4,e_B,x0,e_or,wb,x5,x8,y9,xw,y3,xz,xu,xy,yi,xr,y0,wc,xv,y7,e_CB,e_BM,y8,e_iL,wa,y6,cxK,noxK,xc,yz,yl]);(try simp only[zf,ze,↓reduceIte])
    refine⟨by decide,fun l0 hl0 => ?_⟩;have S1:Same H (upd H l0 (.lst [])):=Same.upd (Same.refl _) hl0;have h1:upd H l0 (.lst []) l0=some (.lst (([]:List Addr).map V.ref)):=zd;generalize upd H l0 (.lst [])=H1 at *;refine⟨p,o,h,t,hs,outs,ds,f,rs,rfl,hH.mono S1,G,S1 _ _ ht,hD,fun H2 gl gas S2 ngl hgl GA=>⟨gl,rfl,⟨_,.of hgl⟩,?_⟩⟩;have S12:=S1.trans S2;have hgn:gl≠l0:=fun e=>by rw[e,h1]at ngl;cases ngl
    have hmem:∀x∈dueK ds ds.length,x.1<ds.length:=fun x hx=>(cp hx).1
    have hfew:=ce G _ (Zm _);have h4:=G.hands.2;generalize dueK ds ds.length=xs at *;have hne:∀x∈xs,ww f outs ds x≠[]/\∀r∈ww f outs ds x,r≠[]:=fun x hx=>zcf G (hmem x hx)
    refine uk (xs:=gas.map V.ref) (PvVd p t l0 gl gas xs (ww f outs ds) (ub ds) H) ⟨[],_,_,_,_,S12,S2 _ _ h1,hgl,GA,⟨rfl,fun i a x e=>by simp at e⟩,fun j y h=>absurd h (YH _),rfl⟩ ?_ ?_ ?_
    . rintro i σ H3 hi ⟨as,v1,v2,v3,v4,S3,h3,hg3,GA3,P3,no,rfl⟩
      exact .of hg3
    . rintro i y σ H3 hy ⟨as,v1,v2,v3,v4,S3,h3,hg3,GA3,P3,no,rfl⟩
      obtain⟨c,hc,rfl⟩:=kt hy;have hi:i<xs.length:=by have:=(Zc.mp hc).1;have:=GA3.len;omega
      have ex:xs[i]? = some xs[i]:=Zb hi;have hk:=hmem _ (Zl hi);obtain⟨cc,g,ls,t1,t2,t3,I3⟩:=GA3.at' i c _ hc ex;have hwp:=gh G hk;have GD:Gd K H3 g (ww f outs ds xs[i]) (ub ds xs[i]):=zkh G hk t3 I3;generalize hx:xs[i]=x at *;simp only[zf,ze,↓reduceIte];refine⟨_,.of t1,rfl,_,_,rfl,_,_,rfl,_,_,rfl,rfl,g,_,_,rfl,GD,hwp.1,fun H4 S4 nn => ?_,fun H4 l4 cy S4 h4' R => ?_⟩
      . have nr:ij (ww f outs ds x) (ub ds x):=NoNeg.all nn
        refine ite2 (fun h=>absurd h (by simp)) fun _=>⟨.inl ⟨rfl,_,.of (S4 _ _ h3)⟩,x.1,cc,g,_,_,rfl,GD.mono S4,hwp.1,nr,fun H5 pa gs S5 hp5 Gt => ?_⟩
        have S45:=S4.trans S5;have hl5:=S45 _ _ h3;have P5:=P3.mono S45;have GA5:=GA3.mono S45;refine⟨_,hl5,?_,as++[pa],_,_,_,_,Same.upd (S3.trans S45) hl0,by rw[zd,Zn];rfl,by rw[zp hgn];exact S45 _ _ hg3,GA5.past hl5 P5.tup hne,?_,fun j y hj ey => ?_,rfl⟩
        . rw[Za,P5.len,Zj]
          exact Yk (show _<=4*4096 by omega) (by decide)
        . rw[Zq,ex]
          exact(P5.snoc (x:=x) hp5 (S45 _ _ t2) Gt).past hl5 P5.tup fun z hz=>by
            rcases ZH.mp hz with q | q
            . exact(gh G (hmem z (List.mem_of_mem_take q))).1
            . rw[ZC.mp q];exact hwp.1
        . by_cases e:j=i
          . subst e
            rw[ex]at ey;cases ey;exact nr
          . exact no j y (by omega) ey
      . refine ite2 (fun _=>⟨by decide,fun tp htp => ?_⟩) fun h=>absurd (by simp:(!decide (V.ref l4=V.non))=true) h
        have S5:Same H4 (upd H4 tp (.tup [V.str (Str.ofString "ring"),V.int x.1,V.ref cc,V.ref l4])):=Same.upd (Same.refl _) htp;exact q2 _ tp cc l4 i x cy (S3.trans (S4.trans S5)) ex no zd ((S4.trans S5) _ _ t2) (S5 _ _ h4') R
    . rintro σ H3 ⟨as,v1,v2,v3,v4,S3,h3,hg3,GA3,P3,no,rfl⟩
      simp only[zf,ze,↓reduceIte];rw[Za,GA3.len,Zt]at P3;refine⟨by decide,fun tp htp => ?_⟩;have S5:Same H3 (upd H3 tp (.tup [V.str (Str.ofString "pays"),V.ref l0])):=Same.upd (Same.refl _) htp;exact q1 _ tp l0 as (S3.trans S5) zd (S5 _ _ h3) (P3.mono S5)
end
def ze4:Sp:=fun vs H Q _=>∃(b:Addr) (xs:List HX) (ds:List HD),vs=[.ref b]/\HandsL H b xs ds/\ds.length<=4/\(∀d∈ds,d.words.length<=8)/\∀H' l as,Same H H'->RwsAt H' l as (zz (ds.map HD.words))->Q (.ref l) H'
def PvGw(b l h:Addr)(rs:List (List Str))(ws:List Str)(H:Hp)(m:Nat)(σ:L2.St)(H':Hp):Prop:=Same H H'/\∃(p:Addr) (as':List Addr) (v:Option V),RwsAt H' p as' (va (rs.take m) ws)/\σ=[some (.ref b),some (.ref l),some (.ref h),some (.ref p),v]
def PvRo(b:Addr)(H:Hp)(ds:List HD)(i:Nat)(σ:L2.St)(H':Hp):Prop:=Same H H'/\∃(l:Addr) (as:List Addr) (v1 v2 v3:Option V),RwsAt H' l as (zz ((ds.map HD.words).take i))/\σ=[some (.ref b),some (.ref l),v1,v2,v3]
section
variable{P:Program}{w:World}{K:Fg}{mg:Str->Option Value}{base:Heap}{a:Ad}
theorem iw (D:zc K mg "_law_rows" mq ["hands"]):FnAt P w K mg base "_law_rows" 1 ["hands"] ze4:=by
  refine FnAt.of D sc_law_rows (fun vs H Q E h => ?_) (fun f cdv A outer s H vs Q E hr h => ?_)
  . obtain⟨b,xs,ds,rfl,_⟩:=h
    rfl
  . obtain⟨b,xs,ds,rfl,hH,h4,h8,q⟩:=h
    refine⟨_,(@zj _ _ _ _ _ (@zw _ _ 1 _ _ _ _ sc_law_rows.nd rfl (Or.inl rfl) (@w9 _ _ _ _ (@za _ _ _ _ _ (@wg _ _ _ _ _ (@zb _)) (@zb _) (yd nofun))) rfl (Or.inl rfl)) (@zj _ _ _ _ _ (we PassesOwn.never rfl (@yk _ _ _ _ (pv 0)) (zn (i:=2) sc_law_rows.nd rfl (Or.inl rfl)) (@zj _ _ _ _ _ (zw (i:=3) sc_law_rows.nd rfl (Or.inl rfl) (@w9 _ _ _ _ (@zb _))) (@zj _ _ _ _ _ (we PassesOwn.never rfl (@yk _ _ _ _ (pv 1)) (zn (i:=4) sc_law_rows.nd rfl (Or.inr rfl)) (@zh _ _ _ (zw (i:=3) sc_law_rows.nd rfl (Or.inl rfl) (@zl _ _ _ _ _ _ _ _ zc2 (pv 3) (yg ["word"] ["hands", "rows", "hand", "grown", "row"] rfl (@yk _ _ _ _ (@z0 _ _ _ _ _ _ _ yh (pv 2) (@zg _ _ _ _) (fun _ _=>rfl))) (fun _=>(zn (i:=0) (show(["word", "hands", "rows", "hand", "grown", "row"]:List Str).Nodup by decide +kernel) rfl (Or.inl rfl))) (fun _=>(@z9 _)) (fun _=>(@zl _ _ _ _ _ _ _ _ m7 (pv 5) (@wg _ _ _ _ _ (za (pv 0) (@zb _))))) rfl (by decide +kernel) rfl rfl))))) (@zh _ _ _ (zw (i:=1) sc_law_rows.nd rfl (Or.inl rfl) (pv 3)))))) (@zh _ _ _ (@zm _ _ _ _ (pv 1))))),?_⟩;rw[show start ["hands", "rows", "hand", "grown", "row"] [V.ref b]=[some (V.ref b),none,none,none,none] from rfl]
    (try dsimp only[xp,e_C,e_op,e_rI,xq,xt,x6,xx,x9,y4,e_B,x0,e_or,wb,x5,x8,y9,xw,y3,xz,xu,xy,yi,xr,y0,wc,xv,y7,e_CB,e_BM,y8,e_iL,wa,y6,cxK,noxK,xc,yz,yl]);(try simp only[zf,ze,↓reduceIte])
    refine⟨by decide,fun e he => ?_⟩;have S1:Same H (upd H e (.tup [])):=Same.upd (Same.refl _) he;have t1:upd H e (.tup []) e=some (.tup []):=zd;generalize upd H e (.tup [])=H1 at *;refine⟨by decide,fun l hl => ?_⟩;have S2:Same H1 (upd H1 l (.lst [V.ref e])):=Same.upd (Same.refl _) hl;have t2:upd H1 l (.lst [V.ref e]) l=some (.lst [V.ref e]):=zd;generalize upd H1 l (.lst [V.ref e])=H2 at *;have hH2:=hH.mono (S1.trans S2);refine⟨⟨_,.of hH2.at'⟩,?_⟩;refine uk (xs:=xs.map fun x=>V.ref x.t) (PvRo b H2 ds) ⟨Same.refl _,l,[e],_,_,_,⟨t2,TupsAt.one (S2 _ _ t1)⟩,rfl⟩ ?_ ?_ ?_
    . rintro i σ H3 hi ⟨S3,l3,as,v1,v2,v3,hR,rfl⟩
      exact .of (S3 _ _ hH2.at')
    . rintro i x σ H3 hx ⟨S3,l3,as,v1,v2,v3,hR,rfl⟩
      obtain⟨h,hh,rfl⟩:=yp hx;have hi:i<ds.length:=by have:=(Zc.mp hh).1;have:=hH.len;omega
      have ed:ds[i]? = some ds[i]:=Zb hi;have hA:=(hH2.mono S3).hand i h _ hh ed;have w8:=h8 _ (Zl hi);have ew:(ds.map HD.words)[i]? = some ds[i].words:=by rw[Ze,ed];rfl
      have hwid:=ca (ds.map HD.words) i (by rw[Za];omega)
      have few:=ug (wss:=ds.map HD.words) (by rw[Za];exact h4) (fun ws hws=>by
        obtain⟨d,hd,rfl⟩:=Zp.mp hws
        exact h8 d hd) i (by rw[Za];omega)
      simp only[zf,ze,↓reduceIte];refine⟨by decide,fun p hp => ?_⟩;have S4:Same H3 (upd H3 p (.lst [])):=Same.upd (Same.refl _) hp;have t4:upd H3 p (.lst []) p=some (.lst []):=zd;generalize upd H3 p (.lst [])=H4 at *;have hR4:=hR.mono S4;generalize hrs:zz ((ds.map HD.words).take i)=rs at *;refine⟨⟨_,.of hR4.lst⟩,?_⟩;refine uk (xs:=as.map V.ref) (PvGw b l3 h.t rs ds[i].words H4) ⟨Same.refl _,p,[],_,⟨t4,TupsAt.nil⟩,rfl⟩ ?_ ?_ ?_
      . rintro m σ H5 hm ⟨S5,p5,as',v,hG,rfl⟩
        exact .of (S5 _ _ hR4.lst)
      . rintro m x σ H5 hx ⟨S5,p5,as',v,hG,rfl⟩
        obtain⟨r,er,rfl⟩:=yp hx;have hm:m<rs.length:=by have:=(Zc.mp er).1;have:=hR.tups.len;omega
        have er2:rs[m]? = some rs[m]:=Zb hm;have hr5:=(hR4.mono S5).tups.at' m r _ er er2;have lr5:=hwid _ (Zl hm);have h15:=(S4.trans S5) _ _ hA.tup;have h25:=(S4.trans S5) _ _ hA.words;simp only[zf,ze,↓reduceIte];refine⟨_,.of h15,_,zy (j:=1) rfl,_,rfl,⟨_,.of h25⟩,fun d => ?_⟩;refine yu (xs:=ds[i].words.map V.str) (zju rs[m] ds[i].words H5) ⟨[],rfl,TupsAt.nil,Same.refl _⟩ ?_ ?_ ?_
        . rintro k ys H6 hk ⟨bs,rfl,t6,S6⟩
          refine⟨?_,.of (S6 _ _ h25)⟩;rw[Za,t6.len,se,Zj];exact Zd (ZB _ _) (Zd w8 (by decide))
        . rintro k y ys H6 hy ⟨bs,rfl,t6,S6⟩
          obtain⟨z,ez,rfl⟩:=yp hy;simp only[zf,ze,↓reduceIte];refine⟨by decide,fun u hu => ?_⟩;have S7:Same H6 (upd H6 u (.tup [V.str z])):=Same.upd (Same.refl _) hu;have t7:upd H6 u (.tup [V.str z]) u=some (.tup [V.str z]):=zd;generalize upd H6 u (.tup [V.str z])=H7 at *;refine⟨_,(S6.trans S7) _ _ hr5,_,t7,?_,fun H8 w S8 hw => ?_⟩
          . rw[Za,lr5]
            exact Zd (show i+1<=9 by omega) (by decide)
          . refine⟨bs++[w],by simp,?_,S6.trans (S7.trans S8)⟩
            rw[Zq,ez]
            show TupsAt H8 (bs++[w]) (vj _ (ds[i].words.take k++[z]))
            rw[vj,Zn];exact(t6.mono (S7.trans S8)).append (TupsAt.one (by rw[hw];simp))
        . rintro ys H6 ⟨bs,rfl,t6,S6⟩ l hl
          rw[Za,Zt]at t6;have S7:Same H6 (upd H6 l (.lst (bs.map V.ref))):=Same.upd (Same.refl _) hl;have t7:upd H6 l (.lst (bs.map V.ref)) l=some (.lst (bs.map V.ref)):=zd;generalize upd H6 l (.lst (bs.map V.ref))=H7 at *;have S57:=S6.trans S7;refine⟨_,S57 _ _ hG.lst,_,t7,?_,fun p6 hp6 => ?_⟩
          . rw[Za,Za,hG.tups.len,t6.len,se,na,Zj]
            have:min m rs.length*ds[i].words.length<=4096*8:=YK (by omega) w8;exact Zd (show _<=4096*8+8 by omega) (by decide)
          . have S8:Same H7 (upd H7 p6 (.lst (as'.map V.ref++bs.map V.ref))):=Same.upd (Same.refl _) hp6
            refine⟨S5.trans (S57.trans S8),p6,as'++bs,_,⟨by rw[zd,Zn],?_⟩,rfl⟩;rw[Zq,er2]
            show TupsAt _ _ (va (rs.take m++[rs[m]]) _)
            rw[ad];exact(hG.tups.mono (S57.trans S8)).append (t6.mono (S7.trans S8))
      . rintro σ H5 ⟨S5,p5,as',v,hG,rfl⟩
        simp only[zf,ze,↓reduceIte];rw[Za,hR.tups.len,Zt]at hG;refine⟨S3.trans (S4.trans S5),p5,as',_,_,_,?_,rfl⟩;rw[ui ew,hrs];exact hG
    . rintro σ H3 ⟨S3,l3,as,v1,v2,v3,hR,rfl⟩
      simp only[zf,ze,↓reduceIte];rw[Za,hH.len,ZG (by rw[Za];omega)]at hR;exact q H3 l3 as (S1.trans (S2.trans S3)) hR
end
theorem zdy{ds:List HD}{row:List Str}(h:row∈zz (ds.map HD.words)):zf4 ds row:=by
  have hpk:=rowsP_iff.mp h;refine⟨by rw[hpk.1,Za],fun k d z e1 e2 => ?_⟩;obtain⟨u,h1,h2⟩:=hpk.2 k d.words (by rw[Ze,e1];rfl);rw[e2]at h1;cases h1;exact h2
def yy(pl:List Str->Nat)(rs:List (List Str)):List (List Key×V):=rs.map fun r=>(z7 r,V.int (pl r))
theorem zf7{pl:List Str->Nat}{rs:List (List Str)}{r:List Str}(h:r∉rs):valV (yy pl rs) (z7 r)=none:=by
  induction rs with
  | nil=>rfl
  | cons q rs ih =>
    rw[yy,ZL,u7 (fun z=>h (by rw[vv z];exact ZA))];exact ih fun z=>h (Zv _ z)
theorem zd5{pl:List Str->Nat}{rs:List (List Str)}{r:List Str}(h:r∈rs):valV (yy pl rs) (z7 r)=some (V.int (pl r)):=by
  induction rs with
  | nil=>cases h
  | cons q rs ih =>
    rw[yy,ZL]
    by_cases e:q=r
    . rw[pc (by rw[e]),e]
    . rw[u7 (fun z=>e (vv z))]
      exact ih ((ZK.mp h).resolve_left fun z=>e z.symm)
theorem zic{f:List Str->Str}{rs:List (List Str)}{r:List Str}(h:r∉rs):valV (yb f rs) (z7 r)=none:=by
  induction rs with
  | nil=>rfl
  | cons q rs ih =>
    rw[yb,ZL,u7 (fun z=>h (by rw[vv z];exact ZA))];exact ih fun z=>h (Zv _ z)
theorem zgv{f:List Str->Str}{rs:List (List Str)}{r:List Str}(h:r∉rs):putK (yb f rs) (z7 r) (V.str (f r))=yb f (rs++[r]):=by
  rw[kc _ (zic h),yb,yb,Zn];rfl
theorem zd2{pl:List Str->Nat}{rs:List (List Str)}{r:List Str}(h:r∉rs)(p:Nat):putK (yy pl rs) (z7 r) (V.int p)=yy (fun q=>if q=r then p else pl q) (rs++[r]):=by
  rw[kc _ (zf7 h),yy,yy,Zn]
  congr 1
  . refine YF fun q hq => ?_
    rw[if_neg fun(z:q=r)=>h (z▸hq)]
  . simp
theorem zb1{pl:List Str->Nat}{rs:List (List Str)}{r:List Str}(h:r∈rs)(p:Nat):putK (yy pl rs) (z7 r) (V.int p)=yy (fun q=>if q=r then p else pl q) rs:=by
  have ha:((yy pl rs).any fun kv=>decide (kv.1=z7 r))=true:=YR.mpr ⟨(z7 r,V.int (pl r)),Zp.mpr ⟨r,h,rfl⟩,decide_eq_true rfl⟩;unfold putK;rw[if_pos ha,yy,yy,YZ];refine YF fun q _ => ?_
  show(if z7 q=z7 r then(z7 q,V.int p) else(z7 q,V.int (pl q)))=_
  by_cases e:q=r
  . rw[if_pos (by rw[e]),if_pos e]
  . rw[if_neg fun z=>e (vv z),if_neg e]
theorem cb{H:Hp}{pl:List Str->Nat}:∀{rs:List (List Str)} {as:List Addr},sd H (yy pl rs) as->TupsAt H as rs:=by
  intro rs
  induction rs with
  | nil =>
    intro as h;cases h;exact TupsAt.nil
  | cons r rs ih =>
    intro as h
    cases h with
    | cons h1 h2 =>
      have:=(TupsAt.one (r:=r) (by rw[<-wj];exact h1)).append (ih h2);exact this
def zci:Sp:=fun vs H Q _=>∃(b r l:Addr) (xs:List HX) (outs:List Str) (ds:List HD) (row:List Str) (ws:List Int) (k:Nat),vs=[.ref b,.ref r,.ref l,.int k]/\HandsL H b xs ds/\GoodHouse outs ds/\H r=some (.tup (row.map V.str))/\zf4 ds row/\H l=some (.lst (ws.map V.int))/\ws.length=ds.length/\(∀n∈ws,-(10^60)<=n/\n<=10^60)/\k<outs.length/\∀z:Int,Q (.int z) H
def PvSl(b r l:Addr)(k:Nat)(H:Hp)(i:Nat)(σ:L2.St)(H':Hp):Prop:=H'=H/\∃(z:Int) (v1 v2:Option V),σ=[some (.ref b),some (.ref r),some (.ref l),some (.int k),some (.int z),v1,v2]
def zdt:Sp:=fun vs H Q _=>∃(o t:Addr) (outs:List Str) (pl:List Str->Nat) (rs:List (List Str)),vs=[.ref o,.ref t]/\H o=some (.lst (outs.map V.str))/\H t=some (.dT (yy pl rs))/\rs.Nodup/\rs.length<=4096/\(∀r∈rs,pl r<outs.length) /\
  ∀H' d,Same H H'->H' d=some (.dT (yb (fun r=>outs.getD (pl r) ⟨#[]⟩) rs.reverse))->Q (.ref d) H'
def PvTb(o t d:Addr)(H:Hp)(f:List Str->Str)(rs:List (List Str))(i:Nat)(σ:L2.St)(H':Hp):Prop:=∃v:Option V,(∀b u,b≠d->H b=some u->H' b=some u)/\H' d=some (.dT (yb f (rs.take i)))/\σ=[some (.ref o),some (.ref t),some (.ref d),v]
section
variable{P:Program}{w:World}{K:Fg}{mg:Str->Option Value}{base:Heap}{a:Ad}
theorem j4 (B:Bt mg) (D:zc K mg "_law_table" p9 ["outcomes", "places"]):FnAt P w K mg base "_law_table" 1 ["outcomes", "places"] zdt:=by
  refine FnAt.of D sc_law_table (fun vs H Q E h => ?_) (fun f cdv A outer s H vs Q E hr h => ?_)
  . obtain⟨o,t,outs,pl,rs,rfl,_⟩:=h
    rfl
  . obtain⟨o,t,outs,pl,rs,rfl,ho,ht,nd,l4,hp,q⟩:=h
    refine⟨_,(@zj _ _ _ _ _ (zw (i:=2) sc_law_table.nd rfl (Or.inl rfl) (@cj _ _)) (@zj _ _ _ _ _ (we PassesOwn.never rfl (@yk _ _ _ _ (@ze8 _ _ _ _ _ _ _ (vf (zad rfl) rfl B.list ll (za (pv 1) (@zb _))) (@tm _ _ _ (@bx _ _ _ _ _ _ fm (@zg _ _ _ _))))) (zn (i:=3) sc_law_table.nd rfl (Or.inl rfl)) (@zh _ _ _ (f7 (@z0 _ _ _ _ _ _ _ yf (pv 0) (@rf _ _ _ _ _ _ (hu10 hr) (pv 1) (pv 3) (fun _ _=>rfl)) (fun _ _=>rfl)) (ax (pv 2) (pv 3) (i9 (hu10 hr)))))) (@zh _ _ _ (@zm _ _ _ _ (pv 2))))),?_⟩;rw[show start ["outcomes", "places", "table", "row"] [V.ref o,V.ref t]=[some (V.ref o),some (V.ref t),none,none] from rfl];simp only[zf,ze,↓reduceIte];intro d hd;have htd:t≠d:=fun z=>by rw[z,hd]at ht;cases ht
    have hod:o≠d:=fun z=>by rw[z,hd]at ho;cases ho
    have S1:Same H (upd H d (.dT [])):=Same.upd (Same.refl _) hd;have t1:upd H d (.dT []) d=some (.dT []):=zd;generalize upd H d (.dT [])=H1 at *;refine⟨_,S1 _ _ ht,fun as hk p hp1 => ?_⟩;have T1:=cb hk;have S2:Same H1 (upd H1 p (.lst (as.map V.ref))):=Same.upd (Same.refl _) hp1;have t2:upd H1 p (.lst (as.map V.ref)) p=some (.lst (as.map V.ref)):=zd;generalize upd H1 p (.lst (as.map V.ref))=H2 at *;refine⟨_,.of t2,fun p2 hp2 => ?_⟩;rw[<-List.map_reverse];have S3:Same H2 (upd H2 p2 (.lst (as.reverse.map V.ref))):=Same.upd (Same.refl _) hp2;have t3:upd H2 p2 (.lst (as.reverse.map V.ref)) p2=some (.lst (as.reverse.map V.ref)):=zd;generalize upd H2 p2 (.lst (as.reverse.map V.ref))=H3 at *;refine⟨⟨_,.of t3⟩,?_⟩;have S13:=S1.trans (S2.trans S3);have S23:=S2.trans S3
    have T3:TupsAt H3 as.reverse rs.reverse:=by
      refine⟨by rw[ZN,ZN,T1.len],fun i b r e1 e2 => ?_⟩;have l1:=(Zc.mp e1).1;have l2:=(Zc.mp e2).1;rw[ZN]at l1 l2;rw[Yx l1]at e1;rw[Yx l2,<-T1.len]at e2;exact S23 _ _ (T1.at' _ b r e1 e2)
    have nd':rs.reverse.Nodup:=YV.mpr (List.Pairwise.imp (fun h=>Ne.symm h) nd);have d3:=S23 _ _ t1;have hpd:p2≠d:=fun z=>by rw[z,S2 _ _ t1]at hp2;cases hp2
    have hne:∀b∈as.reverse,b≠d:=fun b hb z=>by
      obtain⟨i,hi⟩:=ZW hb;have l1:=(Zc.mp hi).1;have:=T3.at' i b _ hi (Zb (by rw[<-T3.len];exact l1));rw[z,d3]at this;cases this
    refine uk (xs:=as.reverse.map V.ref) (PvTb o t d H3 (fun r=>outs.getD (pl r) ⟨#[]⟩) rs.reverse) ⟨_,fun b u _ h=>h,d3,rfl⟩ ?_ ?_ ?_
    . rintro i σ H4 hi ⟨v,S4,h4,rfl⟩
      exact .of (S4 _ _ hpd t3)
    . rintro i x σ H4 hx ⟨v,S4,h4,rfl⟩
      obtain⟨b,hb,rfl⟩:=yp hx;have hi:i<rs.reverse.length:=by rw[<-T3.len];exact(Zc.mp hb).1
      have er:rs.reverse[i]? = some rs.reverse[i]:=Zb hi;generalize rs.reverse[i]=r at er;have hm:r∈rs:=YB.mp (Zi er);have hb4:=S4 _ _ (hne b (Zi hb)) (T3.at' i b r hb er);have ht4:=S4 _ _ htd (S13 _ _ ht);have ho4:=S4 _ _ hod (S13 _ _ ho);simp only[zf,ze,↓reduceIte]
      have g:DGet H4 t (V.ref b) (some (V.int (pl r))):=by
        have:=DGet.t (k:=z7 r) ht4 (by rw[wj];exact hb4);rw[zd5 hm]at this;exact this
      refine⟨_,g,?_⟩
      have hr:r∉rs.reverse.take i:=fun z=>by
        obtain⟨j,hj⟩:=ZW z;have lj:=(Zc.mp hj).1;rw[Zj]at lj;rw[Yn (by omega)]at hj;have e1:=(Zc.mp hj).2;have e2:=(Zc.mp er).2;exact Yb.mp nd' j i (by omega) hi (by omega) (e1.trans e2.symm)
      have hl:=hp r hm;refine⟨_,_,rfl,.of ho4,V.str (outs.getD (pl r) ⟨#[]⟩),zy (by rw[Ze,Zk,Zb hl];rfl),_,DPut.t (k:=z7 r) h4 (by rw[wj];exact hb4) ?_,_,fun c u hc h => ?_,?_,rfl⟩
      . rw[yb,Za,Zj]
        exact Yk (ZB _ _) (Yk (by rw[ZN];exact l4) (by decide))
      . rw[zp hc]
        exact S4 _ _ hc h
      . rw[zd,zgv hr,Zq,er]
        rfl
    . rintro σ H4 ⟨v,S4,h4,rfl⟩
      simp only[zf,ze,↓reduceIte];rw[Za,T3.len,Zt]at h4;refine q H4 d (fun b u hb => ?_) h4
      by_cases z:b=d
      . rw[z,hd]at hb
        cases hb
      . exact S4 _ _ z (S13 _ _ hb)
theorem j6 (B:Bt mg) (D:zc K mg "_law_score" oj ["hands", "row", "weights", "place"]):FnAt P w K mg base "_law_score" 1 ["hands", "row", "weights", "place"] zci:=by
  refine FnAt.of D sc_law_score (fun vs H Q E h => ?_) (fun f cdv A outer s H vs Q E hr h => ?_)
  . obtain⟨b,r,l,xs,outs,ds,row,ws,k,rfl,_⟩:=h
    rfl
  . obtain⟨b,r,l,xs,outs,ds,row,ws,k,rfl,hH,G,hrw,R,hl,lw,bw,hk,q⟩:=h
    refine⟨_,(@zj _ _ _ _ _ (zw (i:=4) sc_law_score.nd rfl (Or.inl rfl) (@zg _ _ _ _)) (@zj _ _ _ _ _ (we PassesOwn.never rfl (yv rfl B.range (za (zq zt rfl B.len yc (za (pv 0) (@zb _))) (@zb _))) (zn (i:=5) sc_law_score.nd rfl (Or.inl rfl)) (@zj _ _ _ _ _ (zw (i:=6) sc_law_score.nd rfl (Or.inl rfl) (qo PySem.F.plainAttrs_list PySem.F.slot_list_index PySem.F.type_list_index ni (@z0 _ _ _ _ _ _ _ yh (@z0 _ _ _ _ _ _ _ yf (pv 0) (pv 5) (fun _ _=>rfl)) (@zg _ _ _ _) (fun _ _=>rfl)) (za (@z0 _ _ _ _ _ _ _ yh (pv 1) (pv 5) (fun _ _=>rfl)) (@zb _)))) (@zh _ _ _ (zw (i:=4) sc_law_score.nd rfl (Or.inl rfl) (@zl _ _ _ _ _ _ _ _ yo (pv 4) (@zl _ _ _ _ _ _ _ _ zmm (@z0 _ _ _ _ _ _ _ yf (pv 2) (pv 5) (fun _ _=>rfl)) (@z0 _ _ _ _ _ _ _ yf (@z0 _ _ _ _ _ _ _ yf (@z0 _ _ _ _ _ _ _ yh (@z0 _ _ _ _ _ _ _ yf (pv 0) (pv 5) (fun _ _=>rfl)) (@zg _ _ _ _) (fun _ _=>rfl)) (pv 6) (fun _ _=>rfl)) (pv 3) (fun _ _=>rfl)))))))) (@zh _ _ _ (@zm _ _ _ _ (pv 4))))),?_⟩;rw[show start ["hands", "row", "weights", "place", "score", "j", "t"] [V.ref b,V.ref r,V.ref l,V.int k]=[some (V.ref b),some (V.ref r),some (V.ref l),some (V.int k),none,none,none] from rfl]
    (try dsimp only[xp,e_C,e_op,e_rI,xq,xt,x6,xx,x9,y4,e_B,x0,e_or,wb,x5,x8,y9,xw,y3,xz,xu,xy,yi,xr,y0,wc,xv,y7,e_CB,e_BM,y8,e_iL,wa,y6,cxK,noxK,xc,yz,yl]);(try simp only[zf,ze,↓reduceIte])
    have d4:=G.hands;have lx:=hH.len;refine⟨_,.inl (.of hH.at'),?_,?_,?_⟩
    . rw[Za];omega
    . rw[Za];omega
    rw[Za,hH.len,show((ds.length:Nat):Int).toNat=ds.length by omega];refine vg (PvSl b r l k H) ⟨rfl,0,_,_,rfl⟩ ?_ ?_
    . rintro i σ H2 hi ⟨rfl,z,v1,v2,rfl⟩
      rw[show(0:Int)+(i:Int)=((i:Nat):Int) by omega];have ed:ds[i]? = some ds[i]:=Zb hi;obtain⟨x,hx⟩:∃x,xs[i]? = some x:=⟨xs[i]'(by omega),by simp⟩;have hA:=hH.hand i x _ hx ed;have er:row[i]? = some (row[i]'(by rw[R.1];exact hi)):=Zb (by rw[R.1];exact hi);have hz:=R.2 i _ _ ed er;generalize row[i]'(by rw[R.1];exact hi)=y at er hz;have hm:=Zl hi;generalize ds[i]=dd at ed hA hz hm;have ew:ws[i]? = some (ws[i]'(by omega)):=Zb (by omega);have bn:=bw _ (Zi ew);generalize ws[i]'(by omega)=n at ew bn;have hj:=Zz.mpr hz;rw[<-G.rows dd hm]at hj;obtain⟨g,hg⟩:∃g,x.gs[dd.words.idxOf y]? = some g:=⟨x.gs[dd.words.idxOf y]'(by rw[hA.len];exact hj),by simp⟩;have eg:dd.worths[dd.words.idxOf y]? = some dd.worths[dd.words.idxOf y]:=Zb hj;have hgr:=hA.row _ g _ hg eg;have hwm:=Zi eg;generalize dd.worths[dd.words.idxOf y]=nn at eg hgr hwm;have lk:k<nn.length:=by rw[G.cols dd hm nn hwm];exact hk
      have en:nn[k]? = some nn[k]:=Zb lk;have bnn:=G.nums dd hm nn hwm _ (Zl lk);generalize nn[k]=m at en bnn;simp only[zf,ze,↓reduceIte];refine⟨_,.of hH.at',_,zy (v:=V.ref x.t) (by rw[Ze,hx];rfl),_,rfl,_,.of hA.tup,_,zy (j:=1) rfl,.inl ⟨rfl,_,.of hA.words⟩,_,.of hrw,_,zy (v:=V.str y) (by rw[Ze,er];rfl),_,rfl,_,.of hA.words,_,ow hz,?_⟩;refine⟨_,.of hl,_,zy (v:=V.int n) (by rw[Ze,ew];rfl),_,.of hH.at',_,zy (v:=V.ref x.t) (by rw[Ze,hx];rfl),_,rfl,_,.of hA.tup,_,zy (j:=2) rfl,?_⟩;refine⟨_,rfl,_,.of hA.grid,_,zy (v:=V.ref g) (by rw[Ze,hg];rfl),?_⟩;exact⟨_,rfl,_,.of hgr,_,zy (v:=V.int m) (by rw[Ze,en];rfl),_,rfl,_,rfl,⟨bn,by omega,by omega⟩,rfl,_,_,_,rfl⟩
    . rintro σ H2 ⟨rfl,z,v1,v2,rfl⟩
      simp only[zf,ze,↓reduceIte];exact q z
end
theorem zbb:∀{l:List Nat},(∀x∈l,1<=x)->1<=l.prod
  | [],_=>Zm _
  | x::l,h=>by
    rw[List.prod_cons];exact YK (h x ZA) (zbb fun y hy=>h y (Zv _ hy))
theorem zbn:∀{zs:List Int} {m:Nat} {z:Int},zs[m]? = some z->zs.idxOf z<=m
  | [],m,z,h=>by simp at h
  | y::zs,0,z,h=>by
    simp at h;subst h;simp
  | y::zs,m+1,z,h=>by
    rw[Xb]
    cases y==z with
    | true=>exact ZE _
    | false=>exact YA (zbn (by simpa using h))
theorem zfn(y z:Int):eqV (V.int y) (V.int z)=decide (y=z):=by
  show(y==z)=decide (y=z)
  by_cases h:y=z
  . subst h;simp
  . simp[h]
theorem zbr{zs:List Int}{z:Int}(h:z∈zs):FirstAt (zs.map V.int) (V.int z) (zs.idxOf z):=by
  have hl:=Zz.mpr h;refine⟨rfl,?_,⟨V.int z,?_,?_⟩,fun m y hm e => ?_⟩
  . rw[ZR]
    intro x hx;obtain⟨y,_,rfl⟩:=Zp.mp hx;rfl
  . rw[Ze,Zb hl,Yp]
    rfl
  . rw[zfn]
    exact decide_eq_true rfl
  . rw[Ze]at e
    have hml:m<zs.length:=by omega
    rw[Zb hml]at e;cases e;rw[zfn,decide_eq_false];intro ez;have hle:zs.idxOf z<=m:=zbn (by rw[Zb hml,ez]);omega
theorem hideD{t:TS}{D:Ends}{σ:L2.St}{H:Hp}(h:∀E:Ends,E=D->t E σ H):t D σ H:=h D rfl
def PvGf(H:Hp)(i:Nat)(ys:List V)(H':Hp):Prop:=H'=H/\∃gs:List Int,ys=gs.map V.int/\gs.length=i
def PvPs(a o b l g d:Addr)(mode:Int)(H:Hp)(n:Nat)(rs:List (List Str))(i:Nat)(σ:L2.St)(H':Hp):Prop:=∃pl:List Str->Nat,(∀c u,c≠d->H c=some u->H' c=some u)/\H' d=some (.dT (yy pl (rs.take i)))/\(∀r∈rs.take i,pl r<n)/\∃v1 v2 v3 v4:Option V,σ=[some (.ref a),some (.ref o),some (.ref b),some (.int mode),some (.ref l),some (.ref g),some (.ref d),v1,v2,v3,v4,none]
def PvSm(st:L2.St)(s:Addr)(H:Hp)(i:Nat)(σ:L2.St)(H':Hp):Prop:=Same H H'/\∃(zs:List Int) (v:Option V),H' s=some (.lst (zs.map V.int))/\zs.length=i/\σ=st++[v,none]
def PvWs(H:Hp)(i:Nat)(ys:List V)(H':Hp):Prop:=H'=H/\∃ws:List Int,ys=ws.map V.int/\ws.length=i/\∀n∈ws,-(10^60)<=n/\n<=10^60
theorem i8(a:Int){n:Int}(h:0<n):0<=a % n/\a % n<n:=⟨Yg _ (by omega),ZU _ h⟩
def zbq(K:Fg):Sp:=fun vs H Q _=>∃(a o b:Addr) (ns:List Int) (outs:List Str) (xs:List HX) (ds:List HD),vs=[.ref a,.ref o,.ref b]/\SqL K H a (ns.map V.int)/\H o=some (.lst (outs.map V.str))/\HandsL H b xs ds/\GoodHouse outs ds /\
  ∀(H':Hp) (t:Addr) (pl:List Str->Nat),Same H H'->H' t=some (.dT (yy pl (zz (ds.map HD.words))))->(∀r∈zz (ds.map HD.words),pl r<outs.length)->Q (.ref t) H'
section
variable{P:Program}{w:World}{K:Fg}{mg:Str->Option Value}{base:Heap}{a:Ad}
theorem kw (B:Bt mg) (xh:FnAt P w K mg base "_law_cell_at" 1 ["script", "k"] (gf K)) (v7:FnAt P w K mg base "_law_drawn" 2 ["script", "k"] (zaz K)) (iw:FnAt P w K mg base "_law_rows" 1 ["hands"] ze4) (j6:FnAt P w K mg base "_law_score" 1 ["hands", "row", "weights", "place"] zci) (D:zc K mg "_law_places" qc ["script", "outcomes", "hands"]):FnAt P w K mg base "_law_places" 3 ["script", "outcomes", "hands"] (zbq K):=by
  refine FnAt.of D sc_law_places (fun vs H Q E h => ?_) (fun f cdv A outer s H vs Q E hr h => ?_)
  . obtain⟨a,o,b,ns,outs,xs,ds,rfl,_⟩:=h
    rfl
  . obtain⟨a,o,b,ns,outs,xs,ds,rfl,ha,ho,hH,G,q⟩:=h
    refine⟨_,(@zj _ _ _ _ _ (zw (i:=3) sc_law_places.nd rfl (Or.inl rfl) (@zl _ _ _ _ _ _ _ _ ym (zi xh (hr.mono (by decide)) rfl (za (pv 0) (za (@zg _ _ _ _) (@zb _)))) (@zg _ _ _ _))) (@zj _ _ _ _ _ (ux (i:=4) ["j"] ["script", "outcomes", "hands", "mode", "weights", "gifts", "places", "row", "place", "sums", "i", "cell"] sc_law_places.nd rfl rfl rfl (yv rfl B.range (za (zq zt rfl B.len yc (za (pv 2) (@zb _))) (@zb _))) (fun _=>(zn (i:=0) (show(["j", "script", "outcomes", "hands", "mode", "weights", "gifts", "places", "row", "place", "sums", "i", "cell"]:List Str).Nodup by decide +kernel) rfl (Or.inl rfl))) (fun _=>(@z9 _)) (fun _=>(@zl _ _ _ _ _ _ _ _ yo (@zg _ _ _ _) (@zl _ _ _ _ _ _ _ _ ym (zi v7 (hr.mono (by decide)) rfl (za (pv 1) (za (@zl _ _ _ _ _ _ _ _ yo (@zg _ _ _ _) (pv 0)) (@zb _)))) (@zg _ _ _ _)))) rfl (by decide +kernel) rfl rfl rfl) (@zj _ _ _ _ _ (@xg _ _ _ _ _ _ _ _ (@yn _ _ _ _ _ _ _ _ pq (pv 3) (@zg _ _ _ _) (yt _)) (@zh _ _ _ (ux (i:=4) ["j"] ["script", "outcomes", "hands", "mode", "weights", "gifts", "places", "row", "place", "sums", "i", "cell"] sc_law_places.nd rfl rfl rfl (yv rfl B.range (za (zq zt rfl B.len yc (za (pv 2) (@zb _))) (@zb _))) (fun _=>(zn (i:=0) (show(["j", "script", "outcomes", "hands", "mode", "weights", "gifts", "places", "row", "place", "sums", "i", "cell"]:List Str).Nodup by decide +kernel) rfl (Or.inl rfl))) (fun _=>(@z9 _)) (fun _=>(vf zhp rfl B.int zjf (za (@ld _ _ _ _ _ _ _ _ pq (pv 0) (@zg _ _ _ _) (yt _)) (@zb _)))) rfl (by decide +kernel) rfl rfl rfl)) (@ye _)) (@zj _ _ _ _ _ (ux (i:=5) ["i"] ["script", "outcomes", "hands", "mode", "weights", "gifts", "places", "row", "place", "sums", "i?", "cell"] sc_law_places.nd rfl rfl rfl (yv rfl B.range (za (zq zt rfl B.len yc (za (pv 1) (@zb _))) (@zb _))) (fun _=>(zn (i:=0) (show(["i", "script", "outcomes", "hands", "mode", "weights", "gifts", "places", "row", "place", "sums", "i?", "cell"]:List Str).Nodup by decide +kernel) rfl (Or.inl rfl))) (fun _=>(@z9 _)) (fun _=>(@zl _ _ _ _ _ _ _ _ ym (zi v7 (hr.mono (by decide)) rfl (za (pv 1) (za (@zl _ _ _ _ _ _ _ _ yo (@zg _ _ _ _) (pv 0)) (@zb _)))) (@zg _ _ _ _))) rfl (by decide +kernel) rfl rfl rfl) (@zj _ _ _ _ _ (zw (i:=6) sc_law_places.nd rfl (Or.inl rfl) (@cj _ _)) (@zj _ _ _ _ _ (we PassesOwn.never rfl (@yk _ _ _ _ (zi iw (hr.mono (by decide)) rfl (za (pv 2) (@zb _)))) (zn (i:=7) sc_law_places.nd rfl (Or.inl rfl)) (@zj _ _ _ _ _ (zw (i:=8) sc_law_places.nd rfl (Or.inl rfl) (@zl _ _ _ _ _ _ _ _ ym (zi v7 (hr.mono (by decide)) rfl (za (pv 0) (za (@zl _ _ _ _ _ _ _ _ yo (@zg _ _ _ _) (zq nk rfl B.len yc (za (pv 6) (@zb _)))) (@zb _)))) (zq zt rfl B.len yc (za (pv 1) (@zb _))))) (@zj _ _ _ _ _ (@xg _ _ _ _ _ _ _ _ (@yn _ _ _ _ _ _ _ _ zfy (pv 3) (@zg _ _ _ _) (yt _)) (@zj _ _ _ _ _ (zw (i:=9) sc_law_places.nd rfl (Or.inl rfl) (@w9 _ _ _ _ (@zb _))) (@zj _ _ _ _ _ (we PassesOwn.never rfl (yv rfl B.range (za (zq zt rfl B.len yc (za (pv 1) (@zb _))) (@zb _))) (zn (i:=10) sc_law_places.nd rfl (Or.inl rfl)) (@zh _ _ _ (rh (qo PySem.F.plainAttrs_list PySem.F.slot_list_append PySem.F.type_list_append je (pv 9) (za (@zl _ _ _ _ _ _ _ _ yo (zi j6 (hr.mono (by decide)) rfl (za (pv 2) (za (pv 7) (za (pv 4) (za (pv 10) (@zb _)))))) (@z0 _ _ _ _ _ _ _ yf (pv 5) (pv 10) (fun _ _=>rfl))) (@zb _)))))) (@zh _ _ _ (zw (i:=8) sc_law_places.nd rfl (Or.inl rfl) (qo PySem.F.plainAttrs_list PySem.F.slot_list_index PySem.F.type_list_index ni (pv 9) (za (zq (zio rfl) rfl B.max zcg (za (pv 9) (@zb _))) (@zb _))))))) (@ye _)) (@zh _ _ _ (f7 (pv 8) (ax (pv 6) (pv 7) (i9 (hu10 hr)))))))) (@zj _ _ _ _ _ (@xg _ _ _ _ _ _ _ _ (@yn _ _ _ _ _ _ _ _ pq (pv 3) (@zg _ _ _ _) (yt _)) (@zj _ _ _ _ _ (zw (i:=11) sc_law_places.nd rfl (Or.inl rfl) (@zl _ _ _ _ _ _ _ _ ym (@zl _ _ _ _ _ _ _ _ wm (zi xh (hr.mono (by decide)) rfl (za (pv 0) (za (@zg _ _ _ _) (@zb _)))) (@zg _ _ _ _)) (@zl _ _ _ _ _ _ _ _ ip (@zg _ _ _ _) (@zg _ _ _ _)))) (@zj _ _ _ _ _ (zw (i:=7) sc_law_places.nd rfl (Or.inl rfl) (@z0 _ _ _ _ _ _ _ yf (vf (zad rfl) rfl B.list ll (za (pv 6) (@zb _))) (@zl _ _ _ _ _ _ _ _ ym (pv 11) (zq nk rfl B.len yc (za (pv 6) (@zb _)))) (fun _ _=>rfl))) (@zh _ _ _ (f7 (@zl _ _ _ _ _ _ _ _ ym (@zl _ _ _ _ _ _ _ _ wm (pv 11) (@zg _ _ _ _)) (zq zt rfl B.len yc (za (pv 1) (@zb _)))) (ax (pv 6) (pv 7) (i9 (hu10 hr))))))) (@ye _)) (@zh _ _ _ (@zm _ _ _ _ (pv 6)))))))))),?_⟩;rw[show start ["script", "outcomes", "hands", "mode", "weights", "gifts", "places", "row", "place", "sums", "i", "cell"] [V.ref a,V.ref o,V.ref b]=[some (V.ref a),some (V.ref o),some (V.ref b),none,none,none,none,none,none,none,none,none] from rfl];refine zgj fun T hT => ?_
    have d4:=G.hands;have o8:=G.outs1;have lx:=hH.len
    (try dsimp only[xp,e_C,e_op,e_rI,xq,xt,x6,xx,x9,y4,e_B,x0,e_or,wb,x5,x8,y9,xw,y3,xz,xu,xy,yi,xr,y0,wc,xv,y7,e_CB,e_BM,y8,e_iL,wa,y6,cxK,noxK,xc,yz,yl]);(try simp only[zf,ze,↓reduceIte])
    refine⟨a,ns,4,rfl,ha,_,rfl,by decide,?_⟩;generalize zx ns 4 % 5=mode;refine⟨_,.inl (.of hH.at'),?_⟩;rw[Za,hH.len];refine⟨by omega,by omega,fun dd => ?_⟩;rw[Zw];refine wp (PvWs H) ⟨rfl,[],rfl,rfl,fun n hn=>by cases hn⟩ ?_ ?_ ?_
    . rintro i ys H2 hi ⟨rfl,ws,rfl,lw,bw⟩
      rw[Za,lw];exact Zd (show i<=4 by omega) (by decide)
    . rintro i ys H2 hi ⟨rfl,ws,rfl,lw,bw⟩
      simp only[zf,ze,↓reduceIte];refine⟨a,ns,400+i,by simp,ha,_,rfl,by decide,?_⟩;have:=i8 (rm ns (400+i)) (n:=9) (by decide);refine⟨rfl,ws++[1+rm ns (400+i) % 9],by simp,by simp[lw],fun n hn => ?_⟩
      rcases ZH.mp hn with z | z
      . exact bw n z
      . rw[ZC.mp z]
        omega
    . rintro ys H2 ⟨rfl,ws,rfl,lw,bw⟩ l hl
      have S2:Same H2 (upd H2 l (.lst (ws.map V.int))):=Same.upd (Same.refl _) hl;have t2:upd H2 l (.lst (ws.map V.int)) l=some (.lst (ws.map V.int)):=zd;generalize upd H2 l (.lst (ws.map V.int))=H3 at *;rw[hT];clear hT T;refine hideL fun T U hT hU => ?_
      refine hideD fun DD hD => ?_
      have rest:∀(l:Addr) (ws:List Int) (H3:Hp),Same H2 H3->H3 l=some (.lst (ws.map V.int))->ws.length=ds.length->(∀n∈ws,-(10^60)<=n/\n<=10^60)->U DD [some (V.ref a),some (V.ref o),some (V.ref b),some (V.int mode),some (V.ref l),none,none,none,none,none,none,none] H3:=by
        clear hT T hl t2 l lw bw ws S2 H3;intro l ws H3 S2 t2 lw bw;rw[hU];clear hU U;refine zgj fun T hT => ?_
        have hH3:=hH.mono S2;have ho3:=S2 _ _ ho;have ha3:=Same.seq S2 ha;simp only[zf,ze,↓reduceIte];refine⟨_,.inl (.of ho3),?_⟩;rw[Za];refine⟨by omega,by omega,fun dd => ?_⟩;rw[Zw];refine wp (PvGf H3) ⟨rfl,[],rfl,rfl⟩ ?_ ?_ ?_
        . rintro i ys H4 hi ⟨rfl,gs,rfl,lg⟩
          rw[Za,lg];exact Zd (show i<=8 by omega) (by decide)
        . rintro i ys H4 hi ⟨rfl,gs,rfl,lg⟩
          simp only[zf,ze,↓reduceIte];exact⟨a,ns,500+i,by simp,ha3,_,rfl,by decide,rfl,gs++[rm ns (500+i) % 7],by simp,by simp[lg]⟩
        . rintro ys H4 ⟨rfl,gs,rfl,lg⟩ g hg
          have S4:Same H4 (upd H4 g (.lst (gs.map V.int))):=Same.upd (Same.refl _) hg;have t4:upd H4 g (.lst (gs.map V.int)) g=some (.lst (gs.map V.int)):=zd;generalize upd H4 g (.lst (gs.map V.int))=H5 at *;intro d hd;have S5:Same H5 (upd H5 d (.dT [])):=Same.upd (Same.refl _) hd;have t5:upd H5 d (.dT []) d=some (.dT []):=zd
          have hd2:H2 d=none:=by
            cases e:H2 d with
            | none=>rfl
            | some u=>rw[(S2.trans S4) _ _ e]at hd;cases hd
          generalize upd H5 d (.dT [])=H6 at *;rw[hT];clear hT T;refine hide1 fun T hT => ?_
          simp only[zf,ze,↓reduceIte];have hH6:=(hH3.mono (S4.trans S5));have ho6:=(S4.trans S5) _ _ ho3;have ha6:=Same.seq (S4.trans S5) ha3;have hg6:=S5 _ _ t4;have hl6:=(S4.trans S5) _ _ t2;refine⟨b,xs,ds,rfl,hH6,d4.2,fun d hd=>(G.words1 d hd).2,fun H7 p7 as S7 hR => ?_⟩;have hrw:=fun r (hr:r∈zz (ds.map HD.words))=>zdy (ds:=ds) hr
          have hnd:(zz (ds.map HD.words)).Nodup:=p0 fun ws hws=>by
            obtain⟨d,hd,rfl⟩:=Zp.mp hws;exact G.wordsD d hd
          have few:(zz (ds.map HD.words)).length<=4096:=by
            have:=ug (wss:=ds.map HD.words) (by rw[Za];exact d4.2) (fun ws hws=>by
              obtain⟨d,hd,rfl⟩:=Zp.mp hws
              exact(G.words1 d hd).2) (ds.map HD.words).length (Zm _)
            rw[Zt]at this;exact this
          have hpos:0<(zz (ds.map HD.words)).length:=by
            rw[zia]
            exact zbb fun z hz=>by
              obtain⟨ws,hws,rfl⟩:=Zp.mp hz;obtain⟨d,hd,rfl⟩:=Zp.mp hws;exact(G.words1 d hd).1
          have d7:=S7 _ _ t5
          have nda:∀c u,H7 c=some u->(∀kvs,u≠.dT kvs)->c≠d:=fun c u h1 h2 z=>by
            rw[z,d7]at h1;cases h1;exact h2 _ rfl
          refine⟨_,rfl,⟨_,.of hR.lst⟩,?_⟩;generalize hrs:zz (ds.map HD.words)=rs at *;refine uk (xs:=as.map V.ref) (PvPs a o b l g d mode H7 outs.length rs) ⟨fun _=>0,fun c u _ h=>h,d7,(fun r hr=>by cases hr),_,_,_,_,rfl⟩ ?_ ?_ ?_
          . rintro i σ H8 hi ⟨pl,S8,h8,hp8,v1,v2,v3,v4,rfl⟩
            exact .of (S8 _ _ (nda _ _ hR.lst nofun) hR.lst)
          . rintro i x σ H8 hx ⟨pl,S8,h8,hp8,v1,v2,v3,v4,rfl⟩
            obtain⟨c,hc,rfl⟩:=yp hx;have hi:i<rs.length:=by rw[<-hR.tups.len];exact(Zc.mp hc).1
            have er:rs[i]? = some rs[i]:=Zb hi;generalize rs[i]=r at er;have hm:r∈rs:=Zi er;have hc7:=hR.tups.at' i c r hc er;have hc8:=S8 _ _ (nda _ _ hc7 nofun) hc7;have o7:=S7 _ _ ho6;have ho8:=S8 _ _ (nda _ _ o7 nofun) o7;have l7:=S7 _ _ hl6;have hl8:=S8 _ _ (nda _ _ l7 nofun) l7;have g7:=S7 _ _ hg6;have hg8:=S8 _ _ (nda _ _ g7 nofun) g7;have hH7:=hH6.mono S7;rw[yi];refine hide1 fun T2 hT2 => ?_
            simp only[zf,ze,↓reduceIte];have S26:Same H2 H7:=S2.trans (S4.trans (S5.trans S7));have Sa:Same H2 H8:=fun c u h=>S8 _ _ (fun z=>by rw[z,hd2]at h;cases h) (S26 _ _ h)
            refine⟨_,h8,a,ns,300+(yy pl (rs.take i)).length,by simp,Same.seq Sa ha,_,.inl (.of ho8),_,rfl,by rw[Za];omega,?_⟩;have hdm:=i8 (rm ns (300+(yy pl (rs.take i)).length)) (n:=((outs.map V.str).length:Nat)) (by rw[Za];omega);obtain⟨p,hp⟩:∃p:Nat,rm ns (300+(yy pl (rs.take i)).length) % ((outs.map V.str).length:Nat)=(p:Int):=⟨_,(Yh hdm.1).symm⟩;rw[hp]at hdm ⊢;rw[Za]at hdm;have hpo:p<outs.length:=by omega
            clear hdm hp;rw[hT2];clear hT2 T2;refine hideL fun T3 U3 hT3 hU3 => ?_
            refine hideD fun D3 hD3 => ?_
            have rest3:∀(p:Nat) (H9:Hp) (v3 v4:Option V),Same H8 H9->p<outs.length->U3 D3 [some (V.ref a),some (V.ref o),some (V.ref b),some (V.int mode),some (V.ref l),some (V.ref g),some (V.ref d),some (V.ref c),some (V.int p),v3,v4,none] H9:=by
              intro p H9 v3 v4 S9 hp;rw[hU3,hD3];simp only[zf,ze,↓reduceIte]
              have hri:r∉rs.take i:=fun z=>by
                obtain⟨j,hj⟩:=ZW z;have lj:=(Zc.mp hj).1;rw[Zj]at lj;rw[Yn (by omega)]at hj;have e1:=(Zc.mp hj).2;have e2:=(Zc.mp er).2;exact Yb.mp hnd j i (by omega) hi (by omega) (e1.trans e2.symm)
              refine⟨_,DPut.t (k:=z7 r) (S9 _ _ h8) (by rw[wj];exact S9 _ _ hc8) ?_,fun q=>if q=r then p else pl q,fun e u he h => ?_,?_,fun q hq => ?_,_,_,_,_,rfl⟩
              . rw[yy,Za,Zj]
                exact Yk (ZB _ _) (Yk few (by decide))
              . rw[zp he]
                exact S9 _ _ (S8 _ _ he h)
              . rw[zd,zd2 hri,Zq,er]
                rfl
              . rw[Zq,er]at hq
                show(if q=r then p else pl q)<outs.length
                split
                . exact hp
                . rename_i hne
                  rcases ZH.mp hq with z | z
                  . exact hp8 q z
                  . exact absurd (ZC.mp z) hne
            simp only[zf,ze,↓reduceIte]
            split
            . rw[hT3]
              clear hT3 T3 hU3;simp only[zf,ze,↓reduceIte];refine⟨by decide,fun s hs => ?_⟩;have S9:Same H8 (upd H8 s (.lst [])):=Same.upd (Same.refl _) hs;have t9:upd H8 s (.lst []) s=some (.lst []):=zd;generalize upd H8 s (.lst [])=H9 at *;refine⟨_,.inl (.of (S9 _ _ ho8)),?_⟩;rw[Za];refine⟨by omega,by omega,?_⟩;rw[Zw];refine vg (PvSm [some (V.ref a),some (V.ref o),some (V.ref b),some (V.int mode),some (V.ref l),some (V.ref g),some (V.ref d),some (V.ref c),some (V.int p),some (V.ref s)] s H8) ⟨S9,[],_,t9,rfl,rfl⟩ ?_ ?_
              . rintro j σ H10 hj ⟨S10,zs,v,h10,lz,rfl⟩
                rw[show(0:Int)+(j:Int)=((j:Nat):Int) by omega];have eg:gs[j]? = some (gs[j]'(by omega)):=Zb (by omega);generalize gs[j]'(by omega)=y at eg;simp only[zf,ze,↓reduceIte,ZV,ZT];refine⟨.inl ⟨rfl,_,.of h10⟩,b,c,l,xs,outs,ds,r,ws,j,rfl,hH.mono (Sa.trans S10),G,S10 _ _ hc8,hrw r hm,S10 _ _ hl8,lw,bw,hj,fun z => ?_⟩;refine⟨_,.of (S10 _ _ hg8),_,zy (v:=V.int y) (by rw[Ze,eg];rfl),_,rfl,_,rfl,_,h10,?_,fun e u he => ?_,zs++[z+y],_,by rw[zd];simp,by simp[lz],rfl⟩
                . rw[Za,lz]
                  exact Zh (show j<9 by omega) (by decide)
                . rw[zp (fun z=>by rw[z,hs]at he;cases he)]
                  exact S10 _ _ he
              . rintro σ H10 ⟨S10,zs,v,h10,lz,rfl⟩
                simp only[zf,ze,↓reduceIte,ZV,ZT];refine⟨.inl ⟨rfl,_,.of h10⟩,_,.of h10,by omega,fun m hm1 hm2=>⟨_,.of h10,_,zbr hm1,rest3 _ H10 _ _ S10 ?_⟩⟩;have:=Zz.mpr hm1;omega
            . exact rest3 p H8 v3 v4 (Same.refl _) hpo
          . rintro σ H8 ⟨pl,S8,h8,hp8,v1,v2,v3,v4,rfl⟩
            rw[Za,hR.tups.len,Zt]at h8 hp8;rw[hT];clear hT T;have S26:Same H2 H7:=S2.trans (S4.trans (S5.trans S7));have Sa:Same H2 H8:=fun c u h=>S8 _ _ (fun z=>by rw[z,hd2]at h;cases h) (S26 _ _ h)
            simp only[zf,ze,↓reduceIte]
            have fin:∀(H9:Hp) (pl:List Str->Nat),Same H2 H9->H9 d=some (.dT (yy pl rs))->(∀r∈rs,pl r<outs.length)->DD.rt (V.ref d) H9:=by
              intro H9 pl S9 h9 hp9;rw[hD];exact q H9 d pl S9 h9 hp9
            refine⟨rfl,?_⟩
            split
            . refine⟨a,ns,4,rfl,Same.seq Sa ha,_,rfl,⟨by decide,by decide⟩,⟨by decide,by decide,by decide⟩,by decide,_,h8,fun bs hk p hp => ?_⟩
              have T8:=cb hk;have S9:Same H8 (upd H8 p (.lst (bs.map V.ref))):=Same.upd (Same.refl _) hp;have t9:upd H8 p (.lst (bs.map V.ref)) p=some (.lst (bs.map V.ref)):=zd;generalize upd H8 p (.lst (bs.map V.ref))=H9 at *;generalize zx ns 4/5 % 10^Int.toNat 18=cell;have hpl:(yy pl rs).length=rs.length:=by rw[yy,Za]
              have h1:=i8 cell (n:=(rs.length:Nat)) (by omega);obtain⟨k,ek⟩:∃k:Nat,cell % (rs.length:Nat)=(k:Int):=⟨_,(Yh h1.1).symm⟩;rw[ek]at h1;have hk1:k<rs.length:=by omega
              have er:rs[k]? = some rs[k]:=Zb hk1;generalize rs[k]=r at er;obtain⟨c,hc⟩:∃c,bs[k]? = some c:=⟨bs[k]'(by rw[T8.len];exact hk1),by simp⟩;have hcr:=S9 _ _ (T8.at' k c r hc er);have h2:=i8 (cell/257) (n:=(outs.length:Nat)) (by omega);obtain⟨m,em⟩:∃m:Nat,cell/257 % (outs.length:Nat)=(m:Int):=⟨_,(Yh h2.1).symm⟩;rw[em]at h2;refine⟨_,S9 _ _ h8,by rw[hpl];omega,_,.of t9,V.ref c,by rw[hpl,ek];exact zy (by rw[Ze,hc];rfl),⟨by decide,by decide⟩,_,.inl (.of ((Sa.trans S9) _ _ ho)),by rw[Za];omega,?_⟩;rw[Za,em];refine⟨_,DPut.t (k:=z7 r) (S9 _ _ h8) (by rw[wj];exact hcr) (by rw[hpl];exact Yk few (by decide)),?_⟩;refine fin _ (fun q=>if q=r then m else pl q) (fun e u he => ?_) ?_ fun q hq => ?_
              . rw[zp (fun z=>by rw[z,hd2]at he;cases he)]
                exact(Sa.trans S9) _ _ he
              . rw[zd,zb1 (Zi er)]
              . show(if q=r then m else pl q)<outs.length
                split
                . omega
                . exact hp8 q hq
            . exact fin H8 pl Sa h8 hp8
      simp only[zf,ze,↓reduceIte];refine⟨rfl,?_⟩
      split
      . rw[hT]
        clear hT;simp only[zf,ze,↓reduceIte];refine⟨_,.inl (.of ((hH.mono S2).at')),?_⟩;rw[Za,hH.len];refine⟨by omega,by omega,fun dd => ?_⟩;rw[Zw];refine wp (PvWs H3) ⟨rfl,[],rfl,rfl,fun n hn=>by cases hn⟩ ?_ ?_ ?_
        . rintro i ys H4 hi ⟨rfl,ws,rfl,lw,bw⟩
          rw[Za,lw];exact Zd (show i<=4 by omega) (by decide)
        . rintro i ys H4 hi ⟨rfl,ws,rfl,lw,bw⟩
          simp only[zf,ze,↓reduceIte];refine⟨rfl,.inr ⟨rfl,ws++[if decide ((0:Int)+i=0)=true then 1 else 0],by simp,by simp[lw],fun n hn => ?_⟩⟩
          rcases ZH.mp hn with z | z
          . exact bw n z
          . rw[ZC.mp z]
            split <;> omega
        . rintro ys H4 ⟨rfl,ws,rfl,lw,bw⟩ l4 hl4
          exact rest l4 ws _ (S2.trans (Same.upd (Same.refl _) hl4)) zd lw bw
      . exact rest l ws H3 S2 t2 lw bw
end
def wu(outs:List Str)(ps:List Nat)(gs:List (Int×List Nat×Addr))(m:Nat):List (Key×V):=((List.range m).filter fun i=>decide (i∈ps)).map fun i=>(Sum.inr (outs.getD i ⟨#[]⟩),V.int (fOf gs (ps.idxOf i)).1)
theorem ah(outs:List Str)(ps:List Nat)(gs:List (Int×List Nat×Addr))(m:Nat):wu outs ps gs (m+1)=if m∈ps then wu outs ps gs m++[(Sum.inr (outs.getD m ⟨#[]⟩),V.int (fOf gs (ps.idxOf m)).1)] else wu outs ps gs m:=by
  unfold wu;rw[Yu,List.filter_append]
  by_cases h:m∈ps
  . rw[if_pos h]
    simp[h]
  . rw[if_neg h]
    simp[h]
theorem ba{outs:List Str}{ps:List Nat}{gs:List (Int×List Nat×Addr)}(hn:outs.Nodup):∀m,m<=outs.length->((wu outs ps gs m).map (·.1)).Nodup:=by
  intro m hm;unfold wu;rw[YZ];refine Yw.mpr (List.Pairwise.imp_of_mem (fun {a b} ha hb hab e => ?_) (List.Pairwise.filter _ (List.nodup_range (n:=m))));have la:=ZP.mp (Ys.mp ha).1;have lb:=ZP.mp (Ys.mp hb).1
  have e':outs.getD a ⟨#[]⟩=outs.getD b ⟨#[]⟩:=by
    have:=e;simp only[Function.comp]at this
    injection this
  rw[Zk,Zk,Zb (by omega),Zb (by omega)]at e';exact hab ((Yy hn).mp e')
theorem col_gd{K:Fg}{H:Hp}{g:Addr}{ls:List Addr}{d:HD}{ps:List Nat}{outs:List Str}{ds:List HD}(G:GoodHouse outs ds)(hd:d∈ds)(hp:ps.length=d.words.length)(hg:H g=some (.lst (ls.map V.ref)))(I:IntsAt H ls (colP d ps)):Gd K H g (colP d ps) d.words.length:=by
  have h8:=(G.words1 d hd).2;have ro:=G.rows d hd;have lr:(colP d ps).length=d.words.length:=by rw[colP,Za];exact ro
  refine⟨⟨ls,⟨.of hg,by rw[I.len],fun i r ns a1 a2=>.of (I.at' i r ns a1 a2)⟩,by rw[I.len,lr]⟩,fun i hi=>⟨(colP d ps)[i]'(by omega),Zb (by omega),?_⟩,h8⟩;have hm:(colP d ps)[i]'(by omega)∈colP d ps:=Zl _;generalize (colP d ps)[i]'(by omega)=r at *;obtain⟨r',_,rfl⟩:=Zp.mp hm;rw[Za,hp]
theorem zlf{ps:List Nat}{i:Nat}:inV (V.int i) ((nI ps).map V.int)=decide (i∈ps):=by
  rw[inV,Bool.eq_iff_iff,YR,decide_eq_true_iff]
  constructor
  . rintro⟨y,hy,h⟩
    obtain⟨z,hz,rfl⟩:=Zp.mp hy;obtain⟨u,hu,rfl⟩:=Zp.mp hz;have h':decide ((u:Int)=(i:Int))=true:=h;have e:=of_decide_eq_true h';have:u=i:=by omega
    rw[<-this];exact hu
  . intro h
    exact⟨V.int i,Zp.mpr ⟨(i:Int),Zp.mpr ⟨i,h,rfl⟩,rfl⟩,decide_eq_true rfl⟩
theorem zjg(i:Nat):∀ps:List Nat,(nI ps).idxOf (i:Int)=ps.idxOf i
  | []=>rfl
  | p::ps=>by
    show((p:Int)::nI ps).idxOf (i:Int)=(p::ps).idxOf i
    rw[Xb,Xb,zjg i ps]
    have:((p:Int)==(i:Int))=(p==i):=by
      rw[Bool.eq_iff_iff,beq_iff_eq,beq_iff_eq];omega
    rw[this]
theorem nI_all(ps:List Nat):((nI ps).map V.int).all ua=true:=by
  rw[ZR];intro x hx;obtain⟨y,_,rfl⟩:=Zp.mp hx;rfl
def c0(a:Ad):Sp:=fun vs H Q E=>∃(p o h t c:Addr) (hs:List Addr) (outs:List Str) (ds:List HD) (f:List Str->Str) (rs:List (List Str)) (ot:List Str) (k:Nat) (d:HD),vs=[.ref p,.ref t,.int k,.ref c]/\HHouse H p o h hs outs ds/\GoodHouse outs ds/\H t=some (.dT (yb f rs))/\ds[k]? = some d/\H c=some (.tup (ot.map V.str))/\e8 f rs outs ot k d /\
  (∀H' m gs,Same H H'->H m=none->H' m=some (.dK (wu outs (putP f outs ot k d.words) gs outs.length))->Great (colP d (putP f outs ot k d.words)) d.words.length gs->Q (.ref m) H')/\∀H' cy,Same H H'->RingA (z8 (colP d (putP f outs ot k d.words))) d.words.length cy->E (.ref a.NoPays) none H'
def PvMn(outs:List Str)(ps:List Nat)(gs:List (Int×List Nat×Addr))(H:Hp)(i:Nat)(ys:List V)(H':Hp):Prop:=Same H H'/\∃Ts:List Addr,ys=Ts.map V.ref/\zae H' Ts (wu outs ps gs i)
section
variable{P:Program}{w:World}{K:Fg}{mg:Str->Option Value}{base:Heap}{a:Ad}
theorem nj (B:Bt mg) (C:Ct K mg a) (ql:FnAtX P w K mg base "greatest" 7 ["grid"] (zap a K)) (o5:FnAt P w K mg base "grid_of" 3 ["house", "table", "k", "others"] ck) (vi:FnAt P w K mg base "dealt_places" 2 ["house", "table", "k", "others"] zay) (f_outcomes_of:FnAt P w K mg base "outcomes_of" 1 ["house"] (wz K 0)) (D:zc K mg "menu_of" js ["house", "table", "k", "others"]):FnAtX P w K mg base "menu_of" 8 ["house", "table", "k", "others"] (c0 a):=by
  refine FnAtX.of D sc_menu_of (fun vs H Q E h => ?_) (fun fa cdv A outer s H vs Q E hr h => ?_)
  . obtain⟨p,o,h,t,c,hs,outs,ds,f,rs,ot,k,d,rfl,_⟩:=h
    rfl
  . obtain⟨p,o,h,t,c,hs,outs,ds,f,rs,ot,k,d,rfl,hH,G,ht,hd,hc,hD,q,e⟩:=h
    refine⟨_,(@zj _ _ _ _ _ (zw (i:=4) sc_menu_of.nd rfl (Or.inr rfl) (@z0 _ _ _ _ _ _ _ yh (cw ql (hr.mono (by decide)) (a8 rfl) rfl (za (zi o5 (hr.mono (by decide)) rfl (za (pv 0) (za (pv 1) (za (pv 2) (za (pv 3) (@zb _)))))) (@zb _))) (@zg _ _ _ _) (fun _ _=>rfl))) (@zj _ _ _ _ _ (PS.nox (zw (i:=5) sc_menu_of.nd rfl (Or.inr rfl) (zi vi (hr.mono (by decide)) rfl (za (pv 0) (za (pv 1) (za (pv 2) (za (pv 3) (@zb _)))))))) (@zh _ _ _ (PS.nox (@zm _ _ _ _ (vf (zgr rfl) rfl B.dict dc (za (yg ["place", "one"] ["house", "table", "k", "others", "pays", "places"] rfl (zkj rfl B.enumerate (za (zi f_outcomes_of (hr.mono (by decide)) rfl (za (pv 0) (@zb _))) (@zb _))) (fun _=>(si rfl (yx (zn (i:=0) (show(["place", "one", "house", "table", "k", "others", "pays", "places"]:List Str).Nodup by decide +kernel) rfl (Or.inl rfl)) (yx (zn (i:=1) (show(["place", "one", "house", "table", "k", "others", "pays", "places"]:List Str).Nodup by decide +kernel) rfl (Or.inl rfl)) (@uw _))))) (fun _=>(@zfq _ _ _ (@yn _ _ _ _ _ _ _ _ zbc (pv 0) (pv 7) (by with_unfolding_all rfl)))) (fun _=>(@wg _ _ _ _ _ (za (pv 1) (za (@z0 _ _ _ _ _ _ _ yf (pv 6) (qo PySem.F.plainAttrs_list PySem.F.slot_list_index PySem.F.type_list_index ni (pv 7) (za (pv 0) (@zb _))) (fun _ _=>rfl)) (@zb _))))) rfl (by decide +kernel) rfl rfl) (@zb _)))))))),?_⟩;rw[show start ["house", "table", "k", "others", "pays", "places"] [V.ref p,V.ref t,V.int k,V.ref c]=[some (V.ref p),some (V.ref t),some (V.int k),some (V.ref c),none,none] from rfl]
    (try dsimp only[xp,e_C,e_op,e_rI,xq,xt,x6,xx,x9,y4,e_B,x0,e_or,wb,x5,x8,y9,xw,y3,xz,xu,xy,yi,xr,y0,wc,xv,y7,e_CB,e_BM,y8,e_iL,wa,y6,cxK,noxK,xc,yz,yl]);(try simp only[zf,ze,↓reduceIte])
    have hkl:k<ds.length:=(Zc.mp hd).1;have hmd:=Zi hd;have w8:=G.words1 d hmd;have lps:(putP f outs ot k d.words).length=d.words.length:=by rw[putP,Za]
    refine⟨p,o,h,t,c,hs,outs,ds,f,rs,ot,k,d,rfl,hH,G,ht,hd,hc,hD,fun H1 g ls S1 hg I1 => ?_⟩;have Gd1:Gd K H1 g (colP d (putP f outs ot k d.words)) d.words.length:=col_gd G hmd lps hg I1;refine⟨g,_,_,rfl,Gd1,w8.1,fun H2 v gs S2 Td Gt => ?_,fun H2 cy S2 R=>e H2 cy (S1.trans S2) R⟩;obtain⟨tp,pl,rl,rfl,d1,d2,d3⟩:=Td.ex;have S12:=S1.trans S2;refine⟨tp,rfl,_,.of d1,_,zy (j:=0) rfl,p,o,h,t,c,hs,outs,ds,f,rs,ot,k,d,rfl,hH.mono S12,G,S12 _ _ ht,hd,S12 _ _ hc,hD,fun H3 l S3 hl => ?_⟩;have S13:=S12.trans S3;have hH3:=hH.mono S13;have o8:=G.outs1.2;have d23:=S3 _ _ d2;generalize hps:putP f outs ot k d.words=ps at *;refine⟨p,_,_,rfl,.of hH3.tup,rfl,o,rfl,⟨_,.of hH3.outs⟩,fun dd => ?_⟩;refine zg5 (xs:=outs.map V.str) (PvMn outs ps gs H3) ⟨Same.refl _,[],rfl,⟨rfl,fun i T kv e=>by simp at e⟩⟩ ?_ ?_ ?_
    . rintro i ys H4 hi ⟨S4,Ts,rfl,T4⟩
      refine⟨?_,.of (S4 _ _ hH3.outs)⟩;rw[Za,T4.len,wu,Za];rw[Za]at hi;exact Zd (YW _ _) (by rw[ZY];exact Zd (show i<=8 by omega) (by decide))
    . rintro i y ys H4 T hy hT ⟨S4,Ts,rfl,T4⟩
      obtain⟨z,hz,rfl⟩:=yp hy;have S5:Same H4 (upd H4 T (.tup [V.int i,V.str z])):=Same.upd (Same.refl _) hT;have t5:upd H4 T (.tup [V.int i,V.str z]) T=some (.tup [V.int i,V.str z]):=zd;generalize upd H4 T (.tup [V.int i,V.str z])=H5 at *;have hl5:=(S4.trans S5) _ _ hl;simp only[zf,ze,↓reduceIte];refine⟨_,.of t5,rfl,_,_,rfl,_,_,rfl,rfl,_,.inl (.of hl5),rfl,nI_all ps,?_⟩;rw[if_neg (by simp:¬(false=true)),zlf];have eo:outs.getD i ⟨#[]⟩=z:=by rw[Zk,hz];rfl
      refine ite2 (fun hin => ?_) fun hno => ?_
      . have hip:=of_decide_eq_true hin
        have hil:=Zz.mpr hip;have lg:ps.idxOf i<gs.length:=by rw[Gt.len];omega
        refine⟨.inl ⟨rfl,_,.of hl5⟩,_,.of hl5,_,zbr (z:=(i:Int)) (Zp.mpr ⟨i,hip,rfl⟩),_,.of ((S4.trans S5) _ _ d23),V.int (fOf gs (ps.idxOf i)).1,?_,by decide,fun m hm => ?_⟩
        . rw[zjg]
          exact l8 (by rw[Ze,Zb lg,ul (Zb lg)];rfl)
        . have S6:Same H5 (upd H5 m (.tup [V.str z,V.int (fOf gs (ps.idxOf i)).1])):=Same.upd (Same.refl _) hm
          have t6:upd H5 m (.tup [V.str z,V.int (fOf gs (ps.idxOf i)).1]) m=some (.tup [V.str z,V.int (fOf gs (ps.idxOf i)).1]):=zd;generalize upd H5 m (.tup [V.str z,V.int (fOf gs (ps.idxOf i)).1])=H6 at *;refine⟨S4.trans (S5.trans S6),Ts++[m],by simp,?_⟩;rw[ah,if_pos hip,eo];refine⟨by simp[T4.len],fun j T' kv e1 e2 => ?_⟩
          by_cases hj:j<Ts.length
          . rw[Zg hj]at e1
            rw[Zg (by rw[<-T4.len];exact hj)]at e2;exact(S5.trans S6) _ _ (T4.at' j T' kv e1 e2)
          . rw[Zf (ZD.mp hj)]at e1
            rw[Zf (by rw[<-T4.len];exact ZD.mp hj)]at e2
            have e0:j-Ts.length=0:=by
              have:=(Zc.mp e1).1;simp at this;omega
            rw[e0]at e1;rw[<-T4.len,e0]at e2;simp at e1 e2;subst e1 e2;exact t6
      . have hip:i∉ps:=fun z=>hno (decide_eq_true z)
        refine⟨S4.trans S5,Ts,rfl,?_⟩;rw[ah,if_neg hip];exact⟨T4.len,fun j T' kv e1 e2=>S5 _ _ (T4.at' j T' kv e1 e2)⟩
    . rintro ys H4 ⟨S4,Ts,rfl,T4⟩ l4 hl4
      rw[Za]at T4;have S5:Same H4 (upd H4 l4 (.lst (Ts.map V.ref))):=Same.upd (Same.refl _) hl4;have t5:upd H4 l4 (.lst (Ts.map V.ref)) l4=some (.lst (Ts.map V.ref)):=zd;generalize upd H4 l4 (.lst (Ts.map V.ref))=H5 at *;refine⟨Ts,t5,_,⟨T4.len,fun i T kv e1 e2=>S5 _ _ (T4.at' i T kv e1 e2)⟩,ba G.outsD _ (Zm _),fun m hm => ?_⟩;have S6:Same H5 (upd H5 m (.dK (wu outs ps gs outs.length))):=Same.upd (Same.refl _) hm;exact q _ m gs (S13.trans (S4.trans (S5.trans S6))) ((S13.trans (S4.trans S5)).free hm) zd Gt
end
def ze1:Sp:=fun vs H Q _=>∃(p o h:Addr) (hs:List Addr) (outs:List Str) (ds:List HD) (z:Str),vs=[.ref p,.str z]/\HHouse H p o h hs outs ds/\z∈outs/\Q (.bl true) H
def zdi:Sp:=fun vs H Q _=>∃(p o h me:Addr) (hs:List Addr) (outs:List Str) (ds:List HD) (mk:List (Key×V)),vs=[.ref p,.ref me]/\HHouse H p o h hs outs ds/\H me=some (.dK mk)/\MenuOk outs mk/\0<mk.length/\mk.length<=8/\∀H',Same H H'->Q (.bl true) H'
theorem HHouse.tups{H H':Hp}{p o h:Addr}{hs:List Addr}{outs:List Str}{ds:List HD}(S:∀c xs,H c=some (.tup xs)->H' c=some (.tup xs))(q:HHouse H p o h hs outs ds):HHouse H' p o h hs outs ds :=
  ⟨S _ _ q.tup,S _ _ q.outs,S _ _ q.hands,q.hand.1,fun i t d e1 e2=>by
    obtain⟨w,g,gs,q⟩:=q.hand.2 i t d e1 e2
    exact⟨w,g,gs,S _ _ q.tup,S _ _ q.words,S _ _ q.grid,q.len,fun i r ns e1 e2=>S _ _ (q.row i r ns e1 e2)⟩⟩
structure MenusAt(H:Hp)(m:Addr)(kvs:List (List Key×V))(outs:List Str)(rs:List (List Str)):Prop where
  at':H m=some (.dT kvs)
  len:kvs.length=rs.length
  menu:∀r∈rs,∃me mk,valV kvs (z7 r)=some (V.ref me)/\H me=some (.dK mk)/\MenuOk outs mk/\0<mk.length/\mk.length<=8
theorem MenusAt.mono{H H':Hp}{m:Addr}{kvs:List (List Key×V)}{outs:List Str}{rs:List (List Str)}(S:Same H H')(h:MenusAt H m kvs outs rs):MenusAt H' m kvs outs rs:=⟨S _ _ h.at',h.len,fun r hr=>by
  obtain⟨me,mk,v1,v2,v3⟩:=h.menu r hr
  exact⟨me,mk,v1,S _ _ v2,v3⟩⟩
def zit:Sp:=fun vs H Q _=>∃(p o h m:Addr) (hs:List Addr) (outs:List Str) (ds:List HD) (k:Nat) (kvs:List (List Key×V)),vs=[.ref p,.int k,.ref m]/\HHouse H p o h hs outs ds/\GoodHouse outs ds/\k<ds.length/\MenusAt H m kvs outs (zz ((ds.eraseIdx k).map HD.words))/\∀H',Same H H'->Q (.bl true) H'
def PvAm(H:Hp)(i:Nat)(ys:List V)(H':Hp):Prop:=Same H H'/\ys=(List.replicate i true).map V.bl
def PvTr46(H:Hp)(me:Addr)(ob:Obj)(mk:List (Key×V))(i:Nat)(ys:List V)(H':Hp):Prop:=(∀c u,c≠me->H c=some u->H' c=some u)/\H' me=some (.frz ob (.dK mk))/\ys=(List.replicate i true).map V.bl
section
variable{P:Program}{w:World}{K:Fg}{mg:Str->Option Value}{base:Heap}{a:Ad}
theorem k8 (B:Bt mg) (f_outcomes_of:FnAt P w K mg base "outcomes_of" 1 ["house"] (wz K 0)) (D:zc K mg "is_outcome" qt ["house", "thing"]):FnAt P w K mg base "is_outcome" 2 ["house", "thing"] ze1:=by
  refine FnAt.of D zbt (fun vs H Q E h => ?_) (fun f cdv A outer s H vs Q E hr h => ?_)
  . obtain⟨p,o,h,hs,outs,ds,z,rfl,_⟩:=h
    rfl
  . obtain⟨p,o,h,hs,outs,ds,z,rfl,hH,hz,q⟩:=h
    refine⟨_,(@zh _ _ _ (@zm _ _ _ _ (@ou _ _ _ _ _ _ _ (zq wn rfl B.isinstance xi (za (pv 1) (za (qd rfl B.str zhi) (@zb _)))) (@k7 _ _ _ _ _ (@ld _ _ _ _ _ _ _ _ zbc (pv 1) (zi f_outcomes_of (hr.mono (by decide)) rfl (za (pv 0) (@zb _))) (by with_unfolding_all rfl)))))),?_⟩;rw[show start ["house", "thing"] [V.ref p,V.str z]=[some (V.ref p),some (V.str z)] from rfl];simp only[zf,ze,↓reduceIte]
    have fl:(outs.map V.str).all ua=true:=by
      rw[ZR];intro x hx;obtain⟨y,_,rfl⟩:=Zp.mp hx;rfl
    refine⟨_,.str _,true,by decide +kernel,iteT ⟨p,_,_,rfl,.of hH.tup,rfl,o,rfl,_,.inr (.of hH.outs),rfl,fl,?_⟩⟩
    have e:inV (V.str z) (outs.map V.str)=true:=by
      rw[inV,YR];exact⟨V.str z,Zp.mpr ⟨z,hz,rfl⟩,decide_eq_true rfl⟩
    rw[if_neg (by simp),e];exact q
theorem ff (B:Bt mg) (k8:FnAt P w K mg base "is_outcome" 2 ["house", "thing"] ze1) (qw:FnAt P w K mg base "is_whole" 1 ["thing"] zcu) (D:zc K mg "is_menu" jh ["house", "thing"]):FnAt P w K mg base "is_menu" 3 ["house", "thing"] zdi:=by
  refine FnAt.of D zgh (fun vs H Q E h => ?_) (fun f cdv A outer s H vs Q E hr h => ?_)
  . obtain⟨p,o,h,me,hs,outs,ds,mk,rfl,_⟩:=h
    rfl
  . obtain⟨p,o,h,me,hs,outs,ds,mk,rfl,hH,hm,M,m0,m8,q⟩:=h
    refine⟨_,(@zj _ _ _ _ _ (@xg _ _ _ _ _ _ _ _ (PW.pt (@jv _ _ _ _ _ _ _ (@vm _ _ _ _ (v6 (zq wn rfl B.isinstance xi (za (pv 1) (za (qd rfl B.dict dc) (@zb _)))))) (@o0 _ _ _ _ (@yn _ _ _ _ _ _ _ _ pq (zq zhz rfl B.len yc (za (pv 1) (@zb _))) (@zg _ _ _ _) (yt _))))) (@zh _ _ _ (@zm _ _ _ _ (@vz _ _ _ _))) (@ye _)) (@zh _ _ _ (@zm _ _ _ _ (zq (tj rfl) rfl B.all kj (za (@zl3 _ _ _ (yg ["outcome", "price"] ["house", "thing"] rfl (zjx (pv 1)) (fun _=>(si rfl (yx (zn (i:=0) (show(["outcome", "price", "house", "thing"]:List Str).Nodup by decide +kernel) rfl (Or.inl rfl)) (yx (zn (i:=1) (show(["outcome", "price", "house", "thing"]:List Str).Nodup by decide +kernel) rfl (Or.inl rfl)) (@uw _))))) (fun _=>(@z9 _)) (fun _=>(@ou _ _ _ _ _ _ _ (zi k8 (hr.mono (by decide)) rfl (za (pv 2) (za (pv 0) (@zb _)))) (@k7 _ _ _ _ _ (zi qw (hr.mono (by decide)) rfl (za (pv 1) (@zb _)))))) rfl (by decide +kernel) rfl rfl)) (@zb _)))))),?_⟩;rw[show start ["house", "thing"] [V.ref p,V.ref me]=[some (V.ref p),some (V.ref me)] from rfl]
    (try dsimp only[xp,e_C,e_op,e_rI,xq,xt,x6,xx,x9,y4,e_B,x0,e_or,wb,x5,x8,y9,xw,y3,xz,xu,xy,yi,xr,y0,wc,xv,y7,e_CB,e_BM,y8,e_iL,wa,y6,cxK,noxK,xc,yz,yl]);(try simp only[zf,ze,↓reduceIte])
    refine⟨_,.dK hm,true,by decide +kernel,iteF ⟨_,hm,rfl,ite2 (fun h=>absurd (of_decide_eq_true h) (by omega)) fun _=>⟨_,hm,fun ob dd => ?_⟩⟩⟩;refine zgi (PvTr46 H me ob mk) ⟨fun c u hc h=>by rw[zp hc];exact h,zd,rfl⟩ ?_ ?_ ?_
    . rintro i ys H2 hi ⟨S2,h2,rfl⟩
      exact⟨by rw[Za,ZI];exact Zd (show i<=8 by omega) (by decide),h2⟩
    . rintro i kv ys H2 T hkv hT ⟨S2,h2,rfl⟩
      obtain⟨o',pr,ho',rfl⟩:=M.all kv (Zi hkv);have S3:Same H2 (upd H2 T (.tup [V.str o',V.int pr])):=Same.upd (Same.refl _) hT;have t3:upd H2 T (.tup [V.str o',V.int pr]) T=some (.tup [V.str o',V.int pr]):=zd
      show gTup _ _ _ _ _ (upd H2 T (.tup [V.str o',V.int pr])) _
      generalize upd H2 T (.tup [V.str o',V.int pr])=H3 at *;have hH3:HHouse H3 p o h hs outs ds:=hH.tups fun c us hc=>S3 _ _ (S2 _ _ (fun z=>by rw[z,hm]at hc;cases hc) hc)
      simp only[zf,ze,↓reduceIte];refine⟨_,.of t3,rfl,_,_,rfl,_,_,rfl,rfl,p,o,h,hs,outs,ds,o',rfl,hH3,ho',?_⟩;refine⟨true,rfl,iteT ⟨pr,rfl,fun c u hc h=>S3 _ _ (S2 c u hc h),S3 _ _ h2,?_⟩⟩;rw[Xa,Zn];rfl
    . rintro ys H2 ⟨S2,h2,rfl⟩ l hl
      have hlm:l≠me:=fun z=>by rw[z,h2]at hl;cases hl
      refine⟨me,⟨_,hm⟩,ob,.dK mk,by rw[zp (Ne.symm hlm)];exact h2,List.replicate mk.length true,.of (by rw[zp hlm,zd]),?_⟩;have e:(List.replicate mk.length true).all id=true:=by simp
      rw[e];refine q _ fun c u hc => ?_
      by_cases z:c=me
      . subst z
        rw[zd,<-hc,hm]
      . rw[zp z,zp (fun y=>by rw[y]at hc;have:=S2 l u hlm hc;rw[hl]at this;cases this)]
        exact S2 c u z hc
theorem j0 (B:Bt mg) (v8:FnAt P w K mg base "others_of" 3 ["house", "k"] (mh K)) (ff:FnAt P w K mg base "is_menu" 3 ["house", "thing"] zdi) (D:zc K mg "are_menus" oa ["house", "k", "thing"]):FnAt P w K mg base "are_menus" 4 ["house", "k", "thing"] zit:=by
  refine FnAt.of D sc_are_menus (fun vs H Q E h => ?_) (fun f cdv A outer s H vs Q E hr h => ?_)
  . obtain⟨p,o,h,m,hs,outs,ds,k,kvs,rfl,_⟩:=h
    rfl
  . obtain⟨p,o,h,m,hs,outs,ds,k,kvs,rfl,hH,G,hk,MM,q⟩:=h
    refine⟨_,(@zj _ _ _ _ _ (zw (i:=3) sc_are_menus.nd rfl (Or.inl rfl) (zi v8 (hr.mono (by decide)) rfl (za (pv 0) (za (pv 1) (@zb _))))) (@zj _ _ _ _ _ (@xg _ _ _ _ _ _ _ _ (PW.pt (@jv _ _ _ _ _ _ _ (@vm _ _ _ _ (v6 (zq wn rfl B.isinstance xi (za (pv 2) (za (qd rfl B.dict dc) (@zb _)))))) (@o0 _ _ _ _ (@yn _ _ _ _ _ _ _ _ db (zq nk rfl B.len yc (za (pv 2) (@zb _))) (zq zt rfl B.len yc (za (pv 3) (@zb _))) (yt _))))) (@zh _ _ _ (@zm _ _ _ _ (@vz _ _ _ _))) (@ye _)) (@zh _ _ _ (@zm _ _ _ _ (zq (tj rfl) rfl B.all kj (za (yg ["others"] ["house", "k", "thing", "rows"] rfl (@yk _ _ _ _ (pv 3)) (fun _=>(zn (i:=0) (show(["others", "house", "k", "thing", "rows"]:List Str).Nodup by decide +kernel) rfl (Or.inl rfl))) (fun _=>(@z9 _)) (fun _=>(zi ff (hr.mono (by decide)) rfl (za (pv 1) (za (zkd (hu10 hr) (pv 3) (pv 0) ⟨rfl,rfl,rfl,rfl⟩) (@zb _))))) rfl (by decide +kernel) rfl rfl) (@zb _))))))),?_⟩;rw[show start ["house", "k", "thing", "rows"] [V.ref p,V.int k,V.ref m]=[some (V.ref p),some (V.int k),some (V.ref m),none] from rfl]
    (try dsimp only[xp,e_C,e_op,e_rI,xq,xt,x6,xx,x9,y4,e_B,x0,e_or,wb,x5,x8,y9,xw,y3,xz,xu,xy,yi,xr,y0,wc,xv,y7,e_CB,e_BM,y8,e_iL,wa,y6,cxK,noxK,xc,yz,yl]);(try simp only[zf,ze,↓reduceIte])
    have h4:=G.hands.2;have h8:∀d∈ds,d.words.length<=8:=fun d hd=>(G.words1 d hd).2
    have few:=ug (wss:=(ds.eraseIdx k).map HD.words) (by rw[Za,ZO hk];omega) (fun ws hws=>by
      obtain⟨d,hd,rfl⟩:=Zp.mp hws
      exact h8 d (Yd hd)) _ (Zm _)
    rw[Zt]at few;refine⟨p,o,h,hs,outs,ds,k,rfl,hH.k,hk,h4,h8,fun H1 rl as S1 _ R1 => ?_⟩;have M1:=MM.mono S1;refine⟨_,.dT M1.at',true,by decide +kernel,iteF ⟨_,M1.at',rl,rfl,_,.inl (.of R1.lst),rfl,?_⟩⟩;rw[if_neg (by rw[Za,R1.tups.len,M1.len];simp)];refine⟨rl,rfl,⟨_,.of R1.lst⟩,fun dd => ?_⟩;refine yu (xs:=as.map V.ref) (PvAm H1) ⟨Same.refl _,rfl⟩ ?_ ?_ ?_
    . rintro i ys H2 hi ⟨S2,rfl⟩
      refine⟨?_,.of (S2 _ _ R1.lst)⟩;rw[Za]at hi;rw[Za,ZI];exact Zd (show i<=4096 by have:=R1.tups.len;omega) (by decide)
    . rintro i x ys H2 hx ⟨S2,rfl⟩
      obtain⟨c,hcx,rfl⟩:=yp hx;have hi:i<(zz ((ds.eraseIdx k).map HD.words)).length:=by have:=(Zc.mp hcx).1;have:=R1.tups.len;omega
      have hrow:=S2 _ _ (R1.tups.at' i c _ hcx (Zb hi));have hm:=Zl hi;generalize (zz ((ds.eraseIdx k).map HD.words))[i]=r at hrow hm;have M2:=M1.mono S2;obtain⟨me,mk,v1,v2,v3,v4,v5⟩:=M2.menu r hm;have gt:=DGet.t (k:=z7 r) M2.at' (b:=c) (by rw[wj];exact hrow);rw[v1]at gt;simp only[zf,ze,↓reduceIte];refine⟨.inr ⟨_,.inl M2.at'⟩,_,gt,p,o,h,me,hs,outs,ds,mk,rfl,hH.mono (S1.trans S2),v2,v3,v4,v5,fun H3 S3=>⟨S2.trans S3,?_⟩⟩;rw[Xa,Zn];rfl
    . rintro ys H2 ⟨S2,rfl⟩ l hl
      refine⟨_,.of zd,?_⟩;have e:(List.replicate (as.map V.ref).length true).all id=true:=by simp
      rw[e];exact q _ (S1.trans (S2.trans (Same.upd (Same.refl _) hl)))
end
def zac(H:Hp)(kvs:List (List Key×V))(outs:List Str)(d:HD)(k:Nat)(row:List Str)(o':Str):Prop:=∀me mk,valV kvs (z7 (row.eraseIdx k))=some (V.ref me)->H me=some (.dK mk)->∃i,zdh mk outs (yw d (row.getD k ⟨#[]⟩)) i o'
def zdu(K:Fg):Sp:=fun vs H Q _=>∃(p o h m:Addr) (hs:List Addr) (outs:List Str) (ds:List HD) (k:Nat) (d:HD) (kvs:List (List Key×V)),vs=[.ref p,.int k,.ref m]/\HHouse H p o h hs outs ds/\GoodHouse outs ds/\ds[k]? = some d/\MenusAt H m kvs outs (zz ((ds.eraseIdx k).map HD.words)) /\
  ∀H' t f,Same H H'->H t=none->H' t=some (.dT (yb f (zz (ds.map HD.words))))->(∀r∈zz (ds.map HD.words),zac H kvs outs d k r (f r))->Q (.ref t) H'
def PvMt(H0 H:Hp)(kvs:List (List Key×V))(outs:List Str)(d:HD)(k:Nat)(rs:List (List Str))(i:Nat)(ys:List V)(H':Hp):Prop:=Same H H'/\∃(Ts:List Addr) (f:List Str->Str),ys=Ts.map V.ref/\qr H' Ts (yb f (rs.take i))/\∀r∈rs.take i,zac H0 kvs outs d k r (f r)
theorem zfv{f:List Str->Str}{rs:List (List Str)}{r:List Str}{z:Str}(h:r∉rs):yb (fun q=>if q=r then z else f q) rs=yb f rs:=by
  refine YF fun q hq => ?_
  show(z7 q,V.str (if q=r then z else f q))=_
  rw[if_neg fun(e:q=r)=>h (e▸hq)]
theorem ur{α β:Type}{g:α->β}:∀{l:List α} {k:Nat},(l.eraseIdx k).map g=(l.map g).eraseIdx k
  | [],_=>rfl
  | _::_,0=>rfl
  | _::l,k+1=>by simp only[List.eraseIdx_cons_succ,ZL,ur (l:=l)]
theorem fg{ds:List HD}{row:List Str}(h:row∈zz (ds.map HD.words))(k:Nat):row.eraseIdx k∈zz ((ds.eraseIdx k).map HD.words):=by
  rw[rowsP_iff]at h ⊢;rw[ur];generalize ds.map HD.words=wss at h
  by_cases hk:k<wss.length
  . refine⟨by rw[ZO hk,ZO (by rw[h.1];exact hk),h.1],fun j ws e => ?_⟩
    rw[Yi]at e
    split at e
    . rename_i hj
      obtain⟨u,h1,h2⟩:=h.2 j ws e;exact⟨u,by rw[Yi,if_pos hj];exact h1,h2⟩
    . rename_i hj
      obtain⟨u,h1,h2⟩:=h.2 (j+1) ws e;exact⟨u,by rw[Yi,if_neg hj];exact h1,h2⟩
  . rw[List.eraseIdx_of_length_le (by rw[h.1];omega),List.eraseIdx_of_length_le (by omega)]
    exact h
theorem zmi{ds:List HD}{row:List Str}(h:row∈zz (ds.map HD.words)):zf4 ds row:=by
  have hpk:=rowsP_iff.mp h;refine⟨by rw[hpk.1,Za],fun k d z e1 e2 => ?_⟩;obtain⟨u,h1,h2⟩:=hpk.2 k d.words (by rw[Ze,e1];rfl);rw[e2]at h1;cases h1;exact h2
section
variable{P:Program}{w:World}{K:Fg}{mg:Str->Option Value}{base:Heap}{a:Ad}
theorem nw (B:Bt mg) (C:Ct K mg a) (j0:FnAt P w K mg base "are_menus" 4 ["house", "k", "thing"] zit) (fu:FnAt P w K mg base "rows_of" 3 ["house"] (zdo K)) (oz:FnAt P w K mg base "without" 1 ["things", "k"] (fj K)) (zc4:FnAt P w K mg base "pick" 3 ["house", "k", "menu", "word"] (zjj K)) (D:zc K mg "menus_table" sm ["house", "k", "menus"]):FnAtX P w K mg base "menus_table" 5 ["house", "k", "menus"] (zdu K):=by
  refine FnAtX.of D zam (fun vs H Q E h => ?_) (fun fa cdv A outer s H vs Q E hr h => ?_)
  . obtain⟨p,o,h,m,hs,outs,ds,k,d,kvs,rfl,_⟩:=h
    rfl
  . obtain⟨p,o,h,m,hs,outs,ds,k,d,kvs,rfl,hH,G,hd,MM,q⟩:=h
    refine⟨_,(@zj _ _ _ _ _ (@xg _ _ _ _ _ _ _ _ (@vm _ _ _ _ (v6 (zi j0 (hr.mono (by decide)) rfl (za (pv 0) (za (pv 1) (za (pv 2) (@zb _))))))) (@zh _ _ _ (cr rfl C.q_NoMenu.toErr rfl C.m_NoMenu (jy rfl) (za (@rk _ _ _ _) (@zb _)))) (@ye _)) (@zh _ _ _ (PS.nox (@zm _ _ _ _ (vf (zgf rfl (hu11 hr)) rfl B.dict dc (za (yg ["row"] ["house", "k", "menus"] rfl (@yk _ _ _ _ (zi fu (hr.mono (by decide)) rfl (za (pv 0) (@zb _)))) (fun _=>(zn (i:=0) (show(["row", "house", "k", "menus"]:List Str).Nodup by decide +kernel) rfl (Or.inl rfl))) (fun _=>(@z9 _)) (fun _=>(@wg _ _ _ _ _ (za (pv 0) (za (zi zc4 (hr.mono (by decide)) rfl (za (pv 1) (za (pv 2) (za (@rf _ _ _ _ _ _ (hu10 hr) (pv 3) (zi oz (hr.mono (by decide)) rfl (za (pv 0) (za (pv 2) (@zb _)))) (fun _ _=>rfl)) (za (@z0 _ _ _ _ _ _ _ yh (pv 0) (pv 2) (fun _ _=>rfl)) (@zb _)))))) (@zb _))))) rfl (by decide +kernel) rfl rfl) (@zb _))))))),?_⟩;rw[show start ["house", "k", "menus"] [V.ref p,V.int k,V.ref m]=[some (V.ref p),some (V.int k),some (V.ref m)] from rfl]
    (try dsimp only[xp,e_C,e_op,e_rI,xq,xt,x6,xx,x9,y4,e_B,x0,e_or,wb,x5,x8,y9,xw,y3,xz,xu,xy,yi,xr,y0,wc,xv,y7,e_CB,e_BM,y8,e_iL,wa,y6,cxK,noxK,xc,yz,yl]);(try simp only[zf,ze,↓reduceIte])
    have hk:k<ds.length:=(Zc.mp hd).1;have h4:=G.hands.2;have h8:∀d∈ds,d.words.length<=8:=fun d hd=>(G.words1 d hd).2
    have few:=ug (wss:=ds.map HD.words) (by rw[Za];exact h4) (fun ws hws=>by
      obtain⟨d,hd,rfl⟩:=Zp.mp hws
      exact h8 d hd) _ (Zm _)
    rw[Zt]at few
    have nd:(zz (ds.map HD.words)).Nodup:=p0 fun vs hvs=>by
      obtain⟨d,hd,rfl⟩:=Zp.mp hvs;exact G.wordsD d hd
    refine⟨p,o,h,m,hs,outs,ds,k,kvs,rfl,hH,G,hk,MM,fun H1 S1=>⟨true,rfl,iteF ?_⟩⟩;refine⟨p,o,h,hs,outs,ds,rfl,(hH.mono S1).k,h4,h8,fun H2 rl as S2 _ R2=>⟨rl,rfl,⟨_,.of R2.lst⟩,fun dd => ?_⟩⟩;have S12:=S1.trans S2;generalize hrs:zz (ds.map HD.words)=rs at *;refine yu (xs:=as.map V.ref) (PvMt H H2 kvs outs d k rs) ⟨Same.refl _,[],fun _=>⟨#[]⟩,rfl,⟨rfl,fun i T kv e=>by simp at e⟩,fun r hr=>by cases hr⟩ ?_ ?_ ?_
    . rintro i ys H3 hi ⟨S3,Ts,f,rfl,hP,hB⟩
      refine⟨?_,.of (S3 _ _ R2.lst)⟩;rw[Za,hP.len,yb,Za,Zj];exact Zd (ZB _ _) (Zd few (by decide))
    . rintro i x ys H3 hx ⟨S3,Ts,f,rfl,hP,hB⟩
      obtain⟨c,hcx,rfl⟩:=yp hx;have hi:i<rs.length:=by have:=(Zc.mp hcx).1;have:=R2.tups.len;omega
      have er:rs[i]? = some rs[i]:=Zb hi;have hrow:=S3 _ _ (R2.tups.at' i c _ hcx er);have hm:rs[i]∈rs:=Zl hi
      have hri:rs[i]∉rs.take i:=fun z=>by
        obtain⟨j,hj⟩:=ZW z;have lj:=(Zc.mp hj).1;rw[Zj]at lj;rw[Yn (by omega)]at hj;have e1:=(Zc.mp hj).2;exact Yb.mp nd j i (by omega) hi (by omega) e1
      generalize rs[i]=r at er hrow hm hri;rw[<-hrs]at hm;have RO:=zmi hm;obtain⟨z,hz⟩:∃z,r[k]? = some z:=⟨r[k]'(by rw[RO.1];exact hk),by simp⟩;have hzm:=RO.2 k d z hd hz;have ez:r.getD k ⟨#[]⟩=z:=by rw[Zk,hz];rfl
      have hot:=fg hm k;have S13:=S12.trans S3;simp only[zf,ze,↓reduceIte];refine⟨c,r.map V.str,k,rfl,.of hrow,by rw[Za,RO.1];exact hk,by rw[Za,RO.1];omega,fun H4 p4 S4 h4' => ?_⟩;rw[<-ur]at h4';have S14:=S13.trans S4;obtain⟨me,mk,v1,v2,v3,v4,v5⟩:=MM.menu _ hot;have gt:=DGet.t (k:=z7 (r.eraseIdx k)) (S14 _ _ MM.at') (b:=p4) (by rw[wj];exact h4');rw[v1]at gt;refine⟨_,gt,_,.of (S4 _ _ hrow),_,zy (v:=V.str z) (by rw[Ze,hz];rfl),p,o,h,me,hs,outs,ds,k,d,z,mk,rfl,hH.mono S14,G,hd,hzm,S14 _ _ v2,v3,v4,fun H5 bi o' S5 hBest=>⟨by decide,fun T hT => ?_⟩⟩;have S6:Same H5 (upd H5 T (.tup [V.ref c,V.str o'])):=Same.upd (Same.refl _) hT;have S36:=S4.trans (S5.trans S6);refine⟨S3.trans S36,Ts++[T],fun q=>if q=r then o' else f q,by simp,?_,fun r' hr' => ?_⟩
      . rw[Zq,er]
        show qr _ _ (yb _ (rs.take i++[r]))
        have e1:=zfv (f:=f) (z:=o') hri;rw[yb,Zn];rw[yb]at e1;rw[e1];refine zd4 (dz S36 hP) (b:=c) ?_ (by rw[wj];exact S36 _ _ hrow)
        show upd H5 T _ T=some (.tup [.ref c,V.str (if r=r then o' else f r)])
        rw[if_pos rfl];exact zd
      . rw[Zq,er]at hr'
        show zac H kvs outs d k r' (if r'=r then o' else f r')
        by_cases e:r'=r
        . rw[if_pos e,e]
          intro me' mk' u1 u2;rw[v1]at u1;cases u1;rw[v2]at u2;cases u2;rw[ez];exact⟨bi,hBest⟩
        . rw[if_neg e]
          rcases ZH.mp hr' with y | y
          . exact hB r' y
          . exact absurd (ZC.mp y) e
    . rintro ys H3 ⟨S3,Ts,f,rfl,hP,hB⟩ l hl
      rw[Za,R2.tups.len,Zt]at hP hB;have S4:Same H3 (upd H3 l (.lst (Ts.map V.ref))):=Same.upd (Same.refl _) hl;refine⟨Ts,zd,_,dz S4 hP,fun t ht => ?_⟩;rw[zjk (ziz nd)];exact q _ t f (S12.trans (S3.trans (S4.trans (Same.upd (Same.refl _) ht)))) ((S12.trans (S3.trans S4)).free ht) zd hB
end
def Tab(H:Hp)(p o h t c:Addr)(hs:List Addr)(outs:List Str)(ds:List HD)(f:List Str->Str)(rs:List (List Str))(ot:List Str)(k:Nat)(d:HD):Prop:=HHouse H p o h hs outs ds/\GoodHouse outs ds/\H t=some (.dT (yb f rs))/\ds[k]? = some d/\H c=some (.tup (ot.map V.str))/\e8 f rs outs ot k d
def zjp:Sp:=fun vs H Q _=>∃(p o h t c:Addr) (hs:List Addr) (outs:List Str) (ds:List HD) (f:List Str->Str) (rs:List (List Str)) (ot:List Str) (k:Nat) (d:HD) (cy:List Nat),vs=[.ref p,.ref t,.int k,.ref c]/\Tab H p o h t c hs outs ds f rs ot k d/\RingA (z8 (colP d (putP f outs ot k d.words))) d.words.length cy/\∀H',Same H H'->Q (.bl true) H'
def J45(a:Ad)(H4:Hp)(σ0:L2.St)(σ:L2.St)(c:Value)(H':Hp):Prop:=Same H4 H'/\σ=σ0/\c=.ref a.NoPays
def zem:Sp:=fun vs H Q _=>∃(o r m:Addr) (outs:List Str) (ws:List Int) (mk:List (Key×V)) (z:Str) (i:Nat) (n p:Int),vs=[.ref o,.ref r,.ref m,.str z]/\H o=some (.lst (outs.map V.str))/\H r=some (.lst (ws.map V.int))/\L2.Rd H m (.dK mk)/\MenuOk outs mk/\outs.Nodup/\outs[i]? = some z/\ws[i]? = some n/\xk mk z=some p/\Q (.int (n-p)) H
theorem zho{zs:List Str}{z:Str}{t:Nat}(nd:zs.Nodup)(h:zs[t]? = some z):zs.idxOf z=t:=by
  have le:=cz h;have hm:z∈zs:=Zi h;have hx:=Zz.mpr hm
  rcases Nat.lt_or_eq_of_le le with hlt | e
  . exfalso
    obtain⟨ht,et⟩:=Zc.mp h;have:=Yb.mp nd _ t hx ht hlt;rw[et,Yp hx]at this;exact this rfl
  . exact e
section
variable{P:Program}{w:World}{K:Fg}{mg:Str->Option Value}{base:Heap}{a:Ad}
theorem qv (B:Bt mg) (D:zc K mg "_law_gain" m4 ["outcomes", "worths", "menu", "outcome"]):FnAt P w K mg base "_law_gain" 1 ["outcomes", "worths", "menu", "outcome"] zem:=by
  refine FnAt.of D zeh (fun vs H Q E h => ?_) (fun f cdv A outer s H vs Q E hr h => ?_)
  . obtain⟨o,r,m,outs,ws,mk,z,i,n,p,rfl,_⟩:=h
    rfl
  . obtain⟨o,r,m,outs,ws,mk,z,i,n,p,rfl,ho,hr',hm,M,nd,ei,en,ep,q⟩:=h
    refine⟨_,(@zh _ _ _ (@zm _ _ _ _ (@zl _ _ _ _ _ _ _ _ uq (@z0 _ _ _ _ _ _ _ yf (pv 1) (qo PySem.F.plainAttrs_list PySem.F.slot_list_index PySem.F.type_list_index ni (pv 0) (za (pv 3) (@zb _))) (fun _ _=>rfl)) (@rf _ _ _ _ _ _ (hu10 hr) (pv 2) (pv 3) (fun _ _=>rfl))))),?_⟩;rw[show start ["outcomes", "worths", "menu", "outcome"] [V.ref o,V.ref r,V.ref m,V.str z]=[some (V.ref o),some (V.ref r),some (V.ref m),some (V.str z)] from rfl];simp only[zf,ze,↓reduceIte];have fi:=ow (Zi ei);rw[zho nd ei]at fi;have g:DGet H m (V.str z) (valV mk (Sum.inr z)):=.inl ⟨mk,Sum.inr z,hm,rfl,rfl⟩;rw[M.val,ep]at g;exact⟨.inl ⟨rfl,_,.of ho⟩,_,.of ho,_,fi,_,.of hr',_,zy (v:=V.int n) (by rw[Ze,en];rfl),_,g,_,rfl,_,rfl,q⟩
theorem ma (B:Bt mg) (C:Ct K mg a) (nj:FnAtX P w K mg base "menu_of" 8 ["house", "table", "k", "others"] (c0 a)) (D:zc K mg "_law_refused" sv ["house", "table", "k", "others"]):FnAt P w K mg base "_law_refused" 9 ["house", "table", "k", "others"] zjp:=by
  refine FnAt.of D sc_law_refused (fun vs H Q E h => ?_) (fun fa cdv A outer s H vs Q E hr h => ?_)
  . obtain⟨p,o,h,t,c,hs,outs,ds,f,rs,ot,k,d,cy,rfl,_⟩:=h
    rfl
  . obtain⟨p,o,h,t,c,hs,outs,ds,f,rs,ot,k,d,cy,rfl,⟨hH,G,ht,hd,hc,hD⟩,R,q⟩:=h
    refine⟨_,(@zj _ _ _ _ _ (zw (i:=4) sc_law_refused.nd rfl (Or.inl rfl) (@vz _ _ _ _)) (@zj _ _ _ _ _ (zlx C.q_NoPays.toErr rfl C.m_NoPays (fun J pn=>(@zh _ _ _ (rh (cw nj (hr.mono (by decide)) zh3 rfl (za (pv 0) (za (pv 1) (za (pv 2) (za (pv 3) (@zb _))))))))) (fun e=>(@zh _ _ _ (zw (i:=4) sc_law_refused.nd rfl (Or.inl rfl) (@vz _ _ _ _))))) (@zh _ _ _ (@zm _ _ _ _ (pv 4))))),?_⟩;rw[show start ["house", "table", "k", "others", "refused"] [V.ref p,V.ref t,V.int k,V.ref c]=[some (V.ref p),some (V.ref t),some (V.int k),some (V.ref c),none] from rfl];simp only[zf,ze,↓reduceIte];refine⟨J45 a H [some (V.ref p),some (V.ref t),some (V.int k),some (V.ref c),some (V.bl false)],fun pn => ?_,fun σ1 c1 H2 hJ => ?_⟩
    . exact⟨p,o,h,t,c,hs,outs,ds,f,rs,ot,k,d,rfl,hH,G,ht,hd,hc,hD,fun H1 m gs S1 _ hm Gt=>by
        have h1:=NoNeg.rnd (Gt.no cy.length) rfl R.lt;have:=R.neg
        omega,fun H1 cy' S1 R'=>⟨S1,rfl,rfl⟩⟩
    . obtain⟨S2,rfl,rfl⟩:=hJ
      exact⟨_,rfl,C.q_NoPays.toErr,C.s_NoPays_NoPays,fun e=>⟨_,rfl,q _ S2⟩⟩
end
def ie(mk:List (Key×V))(outs:List Str)(ws:List Int)(i:Nat)(o:Str)(g:Int):Prop:=outs[i]? = some o/\∃w p,ws[i]? = some w/\xk mk o=some p/\g=w-p/\∀(j:Nat) (o':Str) (w' p':Int),outs[j]? = some o'->ws[j]? = some w'->xk mk o'=some p'->w'-p'<=w-p
structure AsG(H:Hp)(outs:List Str)(d:HD)(k:Nat)(kvs:List (List Key×V))(f g:List Str->Str)(qs:List (List Str))(r:List Str):Prop where
  lt:k<r.length
  short:r.length<=8
  word:r.getD k ⟨#[]⟩∈d.words
  there:r∈qs
  menu:∃me mk n i j,valV kvs (z7 (r.eraseIdx k))=some (V.ref me)/\H me=some (.dK mk)/\MenuOk outs mk/\ie mk outs (yw d (r.getD k ⟨#[]⟩)) i (f r) n/\ie mk outs (yw d (r.getD k ⟨#[]⟩)) j (g r) n
def zdb:Sp:=fun vs H Q _=>∃(o t u m:Addr) (x:HX) (outs:List Str) (ds:List HD) (d:HD) (k:Nat) (f g:List Str->Str) (rs qs:List (List Str)) (kvs:List (List Key×V)),vs=[.ref o,.ref x.t,.int k,.ref t,.ref u,.ref m]/\H o=some (.lst (outs.map V.str))/\HandAt H x d/\GoodHouse outs ds/\d∈ds/\H t=some (.dT (yb f rs))/\H u=some (.dT (yb g qs))/\t≠u/\t≠m/\H m=some (.dT kvs)/\(∀r∈rs,AsG H outs d k kvs f g qs r)/\∀H',Same H H'->Q (.bl true) H'
def PvA49(st:L2.St)(H:Hp)(t:Addr)(ob:Obj)(v:HO)(i:Nat)(σ:L2.St)(H':Hp):Prop:=(∀c e,c≠t->H c=some e->H' c=some e)/\H' t=some (.frz ob v)/\∃v1 v2 v3 v4 v5,σ=st++[v1,v2,v3,v4,v5]
def PvB49(st:L2.St)(H:Hp)(i:Nat)(σ:L2.St)(H':Hp):Prop:=H'=H/\∃v5,σ=st++[v5]
theorem zlh{H:Hp}{f:List Str->Str}:∀{rs:List (List Str)} {as:List Addr},sd H (yb f rs) as->TupsAt H as rs:=by
  intro rs
  induction rs with
  | nil =>
    intro as h;cases h;exact TupsAt.nil
  | cons r rs ih =>
    intro as h
    cases h with
    | cons h1 h2=>exact(TupsAt.one (r:=r) (by rw[<-wj];exact h1)).append (ih h2)
section
variable{P:Program}{w:World}{K:Fg}{mg:Str->Option Value}{base:Heap}{a:Ad}
theorem nt (B:Bt mg) (qv:FnAt P w K mg base "_law_gain" 1 ["outcomes", "worths", "menu", "outcome"] zem) (D:zc K mg "_law_as_good" so ["outcomes", "hand", "k", "table", "other", "menus"]):FnAt P w K mg base "_law_as_good" 2 ["outcomes", "hand", "k", "table", "other", "menus"] zdb:=by
  refine FnAt.of D sc_law_as_good (fun vs H Q E h => ?_) (fun fa cdv A outer s H vs Q E hr h => ?_)
  . obtain⟨o,t,u,m,x,outs,ds,d,k,f,g,rs,qs,kvs,rfl,_⟩:=h
    rfl
  . obtain⟨o,t,u,m,x,outs,ds,d,k,f,g,rs,qs,kvs,rfl,ho,hA,G,hmd,ht,hu,ntu,ntm,hm,hG,q⟩:=h
    refine⟨_,(@zj _ _ _ _ _ (@zfr _ _ _ (we PassesOwn.never rfl (@zkg _ _ _ _ (pv 3)) (zn (i:=6) sc_law_as_good.nd rfl (Or.inl rfl)) (@zj _ _ _ _ _ (zw (i:=7) sc_law_as_good.nd rfl (Or.inl rfl) (@rf _ _ _ _ _ _ (hu10 hr) (pv 5) (@zl _ _ _ _ _ _ _ _ m7 (@re _ _ _ _ _ _ _ _ _ _ de (pv 6) (@qz _) (@tm _ _ _ (pv 2))) (@re _ _ _ _ _ _ _ _ _ _ de (pv 6) (@tm _ _ _ (@zl _ _ _ _ _ _ _ _ yo (pv 2) (@zg _ _ _ _))) (@qz _))) (fun _ _=>rfl))) (@zj _ _ _ _ _ (zw (i:=8) sc_law_as_good.nd rfl (Or.inl rfl) (@z0 _ _ _ _ _ _ _ yf (@z0 _ _ _ _ _ _ _ yh (pv 1) (@zg _ _ _ _) (fun _ _=>rfl)) (qo PySem.F.plainAttrs_list PySem.F.slot_list_index PySem.F.type_list_index ni (@z0 _ _ _ _ _ _ _ yh (pv 1) (@zg _ _ _ _) (fun _ _=>rfl)) (za (@z0 _ _ _ _ _ _ _ yh (pv 6) (pv 2) (fun _ _=>rfl)) (@zb _))) (fun _ _=>rfl))) (@zj _ _ _ _ _ (zw (i:=9) sc_law_as_good.nd rfl (Or.inl rfl) (zi qv (hr.mono (by decide)) rfl (za (pv 0) (za (pv 8) (za (pv 7) (za (@rf _ _ _ _ _ _ (hu10 hr) (pv 3) (pv 6) (fun _ _=>rfl)) (@zb _))))))) (@zj _ _ _ _ _ (@xg _ _ _ _ _ _ _ _ (@yn _ _ _ _ _ _ _ _ db (zi qv (hr.mono (by decide)) rfl (za (pv 0) (za (pv 8) (za (pv 7) (za (@rf _ _ _ _ _ _ (hu10 hr) (pv 4) (pv 6) (fun _ _=>rfl)) (@zb _)))))) (pv 9) (yt _)) (@zh _ _ _ (@zm _ _ _ _ (@vz _ _ _ _))) (@ye _)) (@zh _ _ _ (@zfr _ _ _ (we PassesOwn.never rfl (@zk4 _ _ _ _ (pv 7)) (zn (i:=10) sc_law_as_good.nd rfl (Or.inl rfl)) (@zh _ _ _ (@xg _ _ _ _ _ _ _ _ (@yn _ _ _ _ _ _ _ _ zfy (zi qv (hr.mono (by decide)) rfl (za (pv 0) (za (pv 8) (za (pv 7) (za (pv 10) (@zb _)))))) (pv 9) (yt _)) (@zh _ _ _ (@zm _ _ _ _ (@vz _ _ _ _))) (@ye _)))))))))))) (@zh _ _ _ (@zm _ _ _ _ (@vz _ _ _ _)))),?_⟩;rw[show start ["outcomes", "hand", "k", "table", "other", "menus", "row", "menu", "worths", "gain_v", "outcome"] [V.ref o,V.ref x.t,V.int k,V.ref t,V.ref u,V.ref m]=[some (V.ref o),some (V.ref x.t),some (V.int k),some (V.ref t),some (V.ref u),some (V.ref m),none,none,none,none,none] from rfl]
    (try dsimp only[xp,e_C,e_op,e_rI,xq,xt,x6,xx,x9,y4,e_B,x0,e_or,wb,x5,x8,y9,xw,y3,xz,xu,xy,yi,xr,y0,wc,xv,y7,e_CB,e_BM,y8,e_iL,wa,y6,cxK,noxK,xc,yz,yl]);(try simp only[zf,ze,↓reduceIte])
    refine⟨_,ht,fun ob as hk => ?_⟩;have T:=zlh hk;have k0:∀c e,c≠t->H c=some e->upd H t (.frz ob (.dT (yb f rs))) c=some e:=fun c e hc h=>by rw[zp hc];exact h
    have f0:upd H t (.frz ob (.dT (yb f rs))) t=some (.frz ob (.dT (yb f rs))):=zd;have ntup:∀{c us},H c=some (.tup us)->c≠t:=fun h e=>by rw[e,ht]at h;cases h
    have nlst:∀{c us},H c=some (.lst us)->c≠t:=fun h e=>by rw[e,ht]at h;cases h
    generalize upd H t (.frz ob (.dT (yb f rs)))=H0 at *;refine zh5 (PvA49 [some (V.ref o),some (V.ref x.t),some (V.int k),some (V.ref t),some (V.ref u),some (V.ref m)] H t ob (.dT (yb f rs))) ⟨k0,f0,_,_,_,_,_,rfl⟩ ?_ ?_ ?_
    . rintro i σ H1 hi ⟨k1,f1,v1,v2,v3,v4,v5,rfl⟩
      exact f1
    . rintro i c σ H1 hc ⟨k1,f1,v1,v2,v3,v4,v5,rfl⟩
      have hi:i<rs.length:=by rw[<-T.len];exact(Zc.mp hc).1
      have hr0:=T.at' i c _ hc (Zb hi);have hrm:=Zl hi;generalize rs[i]=r at hr0 hrm;have hrow:=k1 _ _ (ntup hr0) hr0;obtain⟨hlt,h8,hword,hthere,me,mk,n,i1,j1,vme,hme,M,⟨a1,w1,q1,a2,a3,a4,a5⟩,⟨b1,w2,q2,b2,b3,b4,b5⟩⟩:=hG r hrm;simp only[zf,ze,↓reduceIte,ZV,ZT]
      have ez:(r.map V.str)[k]? = some (V.str (r.getD k ⟨#[]⟩)):=by
        rw[Ze,Zk,Zb hlt];rfl
      generalize r.getD k ⟨#[]⟩=z at *;have hix:=Zz.mpr hword;have hixw:d.words.idxOf z<d.worths.length:=by rw[G.rows d hmd];exact hix
      obtain⟨wr,ewr⟩:∃r,x.gs[d.words.idxOf z]? = some r:=⟨x.gs[d.words.idxOf z]'(by rw[hA.len];exact hixw),by simp⟩;have hw0:=hA.row _ wr _ ewr (Zb hixw)
      have ew:yw d z=d.worths[d.words.idxOf z]:=by
        rw[yw,Zk,Zb hixw];rfl
      rw[<-ew]at hw0;refine⟨_,hrow,fun H2 p2 S2 h2=>⟨_,S2 _ _ hrow,fun H3 p3 S3 h3=>⟨_,S3 _ _ h2,_,h3,?_,fun H4 p4 S4 h4 => ?_⟩⟩⟩
      . rw[dm (by rw[Za];omega),show(k:Int)+1=((k+1:Nat):Int) by omega,jn (by rw[Za];omega),Zj,Yc,Za]
        exact Zd (show _<=16 by omega) (by decide)
      rw[dm (by rw[Za];omega),show(k:Int)+1=((k+1:Nat):Int) by omega,jn (by rw[Za];omega),<-ZX,<-ur]at h4;have S14:=S2.trans (S3.trans S4);have k4:∀c e,c≠t->H c=some e->H4 c=some e:=fun c e hc h=>S14 _ _ (k1 c e hc h)
      have gm:=DGet.t (k:=z7 (r.eraseIdx k)) (k4 _ _ (Ne.symm ntm) hm) (b:=p4) (by rw[wj];exact h4);rw[vme]at gm;have x4:=k4 _ _ (ntup hA.tup) hA.tup;have c4:=S14 _ _ hrow;refine⟨_,gm,_,.of x4,_,zy (j:=2) rfl,_,.of x4,_,zy (j:=1) rfl,.inl ⟨rfl,_,.of (k4 _ _ (nlst hA.words) hA.words)⟩,_,.of c4,_,zy ez,_,rfl,_,.of (k4 _ _ (nlst hA.words) hA.words),_,ow hword,_,rfl,_,.of (k4 _ _ (nlst hA.grid) hA.grid),_,zy (v:=V.ref wr) (by rw[Ze,ewr];rfl),?_⟩;have ntk:me≠t:=fun e=>by rw[e,ht]at hme;cases hme
      have me4:=k4 _ _ ntk hme;have o4:=k4 _ _ (nlst ho) ho;have w4:=k4 _ _ (nlst hw0) hw0;have gt:DGet H4 t (V.ref c) (valV (yb f rs) (z7 r)):=.inr ⟨yb f rs,z7 r,c,.inr ⟨ob,S14 _ _ f1⟩,rfl,by rw[wj];exact c4,rfl⟩;rw[gr hrm]at gt;have gu:=DGet.t (k:=z7 r) (k4 _ _ (Ne.symm ntu) hu) (b:=c) (by rw[wj];exact c4);rw[gr hthere]at gu;have lw:(yw d z).length=outs.length:=by rw[ew];exact G.cols d hmd _ (Zl hixw)
      refine⟨_,gt,o,wr,me,outs,yw d z,mk,f r,i1,w1,q1,rfl,o4,w4,.inl me4,M,G.outsD,a1,a2,a3,_,gu,o,wr,me,outs,yw d z,mk,g r,j1,w2,q2,rfl,o4,w4,.inl me4,M,G.outsD,b1,b2,b3,rfl,ite2 (fun h => ?_) fun _=>⟨me,rfl,mk,me4,fun ob2 => ?_⟩⟩
      . have e:w2-q2=w1-q1:=by omega
        rw[e]at h;simp at h
      have f5:upd H4 me (.frz ob2 (.dK mk)) me=some (.frz ob2 (.dK mk)):=zd;have k5:∀c e,c≠me->H4 c=some e->upd H4 me (.frz ob2 (.dK mk)) c=some e:=fun c e hc h=>by rw[zp hc];exact h
      generalize upd H4 me (.frz ob2 (.dK mk))=H5 at *;refine zhu (PvB49 [some (V.ref o),some (V.ref x.t),some (V.int k),some (V.ref t),some (V.ref u),some (V.ref m),some (V.ref c),some (V.ref me),some (V.ref wr),some (V.int (w1-q1))] H5) ⟨rfl,_,rfl⟩ ?_ ?_ ?_
      . rintro j σ H6 hj ⟨rfl,v,rfl⟩
        exact f5
      . rintro j y σ H6 hy ⟨rfl,v,rfl⟩
        obtain⟨kv,hkv,rfl⟩:=yp hy;have hkm:=Zi hkv;obtain⟨o',p',ho',rfl⟩:=M.all kv hkm;obtain⟨i',hi'⟩:=ZW ho';have li:=(Zc.mp hi').1;obtain⟨w',hw'⟩:∃n,(yw d z)[i']? = some n:=⟨(yw d z)[i']'(by rw[lw];exact li),by simp⟩
        have hp':xk mk o'=some p':=by
          unfold xk;rw[dj M.nd hkm]
        have:=a5 i' o' w' p' hi' hw' hp';simp only[zf,ze,↓reduceIte,ZV,ZT];refine⟨o,wr,me,outs,yw d z,mk,o',i',w',p',rfl,k5 _ _ (fun e=>by rw[e,me4]at o4;cases o4) o4,k5 _ _ (fun e=>by rw[e,me4]at w4;cases w4) w4,.inr ⟨ob2,f5⟩,M,G.outsD,hi',hw',hp',?_⟩;refine⟨_,rfl,ite2 (fun h => ?_) fun _=>⟨rfl,_,rfl⟩⟩;have:=of_decide_eq_true h;omega
      . rintro σ H6 ⟨rfl,v,rfl⟩
        refine⟨me,(fun o' u' h=>by rw[me4]at h;cases h),_,_,f5,fun e' v' hc h => ?_,?_,_,_,_,_,_,rfl⟩
        . by_cases e:e'=me
          . rw[e,zd]
            rw[e,hme]at h;exact h
          . rw[zp e]
            exact k5 _ _ e (k4 _ _ hc h)
        . rw[zp (Ne.symm ntk)]
          exact k5 _ _ (Ne.symm ntk) (S14 _ _ f1)
    . rintro σ H1 ⟨k1,f1,v1,v2,v3,v4,v5,rfl⟩
      refine⟨t,(fun o' u' h=>by rw[ht]at h;cases h),_,_,f1,q _ fun c e h => ?_⟩
      by_cases hc:c=t
      . rw[hc,zd]
        rw[hc,ht]at h;exact h
      . rw[zp hc]
        exact k1 c e hc h
end
theorem zbl{outs:List Str}{ps:List Nat}{gs:List (Int×List Nat×Addr)}{m:Nat}{kv:Key×V}(h:kv∈wu outs ps gs m):∃i,i<m/\i∈ps/\kv=(Sum.inr (outs.getD i ⟨#[]⟩),V.int (fOf gs (ps.idxOf i)).1):=by
  obtain⟨i,hi,rfl⟩:=Zp.mp h;obtain⟨h1,h2⟩:=Ys.mp hi;exact⟨i,ZP.mp h1,of_decide_eq_true h2,rfl⟩
theorem zds{outs:List Str}{ps:List Nat}{gs:List (Int×List Nat×Addr)}(nd:outs.Nodup)(h8:outs.length<=8):MenuOk outs (wu outs ps gs outs.length):=by
  refine⟨fun kv hkv => ?_,ba nd _ (Zm _),?_⟩
  . obtain⟨i,h1,_,rfl⟩:=zbl hkv
    refine⟨_,_,?_,rfl⟩;rw[Zk,Zb h1];exact Zl h1
  . rw[wu,Za]
    exact Zd (YW _ _) (by rw[ZY];omega)
theorem d9{outs:List Str}{ps:List Nat}{gs:List (Int×List Nat×Addr)}{i:Nat}{o:Str}(nd:outs.Nodup)(h:outs[i]? = some o)(hp:i∈ps):xk (wu outs ps gs outs.length) o=some (fOf gs (ps.idxOf i)).1:=by
  have hi:=(Zc.mp h).1
  have hm:(Sum.inr o,V.int (fOf gs (ps.idxOf i)).1)∈wu outs ps gs outs.length:=by
    refine Zp.mpr ⟨i,Ys.mpr ⟨ZP.mpr hi,decide_eq_true hp⟩,?_⟩;rw[Zk,h];rfl
  unfold xk;rw[dj (ba nd _ (Zm _)) hm]
theorem zil{outs:List Str}{ps:List Nat}{gs:List (Int×List Nat×Addr)}{j:Nat}{o:Str}{p:Int}(nd:outs.Nodup)(h:outs[j]? = some o)(e:xk (wu outs ps gs outs.length) o=some p):j∈ps/\p=(fOf gs (ps.idxOf j)).1:=by
  by_cases hp:j∈ps
  . rw[d9 nd h hp]at e
    exact⟨hp,(Option.some.inj e).symm⟩
  . exfalso
    unfold xk at e
    cases ev:valV (wu outs ps gs outs.length) (Sum.inr o) with
    | none=>rw[ev]at e;cases e
    | some v =>
      have:=da ev;obtain⟨kv,hkv,ek⟩:=Zp.mp this;obtain⟨i,h1,h2,rfl⟩:=zbl hkv
      injection ek with ek
      rw[Zk,Zb h1]at ek;have hj:=(Zc.mp h);obtain⟨hj1,hj2⟩:=hj;have:i=j:=(Yy nd).mp (by rw[hj2];exact ek);exact hp (this▸h2)
theorem zi3{outs:List Str}{ds:List HD}{d:HD}{f:List Str->Str}{ot:List Str}{k t:Nat}{gs:List (Int×List Nat×Addr)}(G:GoodHouse outs ds)(hmd:d∈ds)(ht:t<d.words.length)(hin:∀u∈d.words,f (insP ot k u)∈outs)(Gt:Great (colP d (putP f outs ot k d.words)) d.words.length gs):ie (wu outs (putP f outs ot k d.words) gs outs.length) outs (yw d d.words[t]) (outs.idxOf (f (insP ot k d.words[t]))) (f (insP ot k d.words[t])) ((yw d d.words[t]).getD (outs.idxOf (f (insP ot k d.words[t]))) 0-(fOf gs t).1):=by
  have ro:=G.rows d hmd;have htw:t<d.worths.length:=by omega
  have lps:(putP f outs ot k d.words).length=d.words.length:=by rw[putP,Za]
  have psa:∀(s:Nat) (hs:s<d.words.length),(putP f outs ot k d.words)[s]? = some (outs.idxOf (f (insP ot k d.words[s]))):=fun s hs=>by
    rw[putP,Ze,Zb hs];rfl
  have io:∀(s:Nat) (hs:s<d.words.length),outs[outs.idxOf (f (insP ot k d.words[s]))]? = some (f (insP ot k d.words[s])):=fun s hs=>by
    have h:=Zz.mpr (hin _ (Zl hs));rw[Zb h,Yp h]
  have ewt:yw d d.words[t]=d.worths[t]:=by
    rw[yw,zho (G.wordsD d hmd) (Zb ht),Zk,Zb htw];rfl
  have hcl:=G.cols d hmd _ (Zl htw)
  have gc:∀(r s p:Nat) (hr:r<d.worths.length),(putP f outs ot k d.words)[s]? = some p->gcA (colP d (putP f outs ot k d.words)) r s=(d.worths[r]).getD p 0:=fun r s p hr e=>by
    unfold gcA colP;simp[Zk,Zb hr,e]
  have hon:=Gt.hon;have pay:∀s,s<d.words.length->(gs.map fun e=>e.1).getD s 0=(fOf gs s).1:=fun s hs=>za1 (by rw[Gt.len];exact hs)
  have same:∀(s:Nat) (hs:s<d.words.length),(fOf gs ((putP f outs ot k d.words).idxOf (outs.idxOf (f (insP ot k d.words[s]))))).1=(fOf gs s).1:=fun s hs=>by
    have hm:outs.idxOf (f (insP ot k d.words[s]))∈putP f outs ot k d.words:=Zi (psa s hs);have hx:=Zz.mpr hm;have e0:=Zb hx;rw[Yp hx]at e0;generalize (putP f outs ot k d.words).idxOf (outs.idxOf (f (insP ot k d.words[s])))=s' at *;have hs':s'<d.words.length:=by omega
    have h1:=hon s s' hs hs';have h2:=hon s' s hs' hs;rw[pay s hs,pay s' hs',gc s s' _ (by omega) e0,gc s s _ (by omega) (psa s hs)]at h1;rw[pay s hs,pay s' hs',gc s' s _ (by omega) (psa s hs),gc s' s' _ (by omega) e0]at h2;omega
  have hm:outs.idxOf (f (insP ot k d.words[t]))∈putP f outs ot k d.words:=Zi (psa t ht);have hlt:=(Zc.mp (io t ht)).1;have pr:=d9 (gs:=gs) G.outsD (io t ht) hm;rw[same t ht]at pr;rw[ewt];refine⟨io t ht,_,_,?_,pr,rfl,fun j o' w' p' h1 h2 h3 => ?_⟩
  . rw[Zk,Zb (by omega)]
    rfl
  . obtain⟨hj,rfl⟩:=zil G.outsD h1 h3
    have hx:=Zz.mpr hj;have e0:=Zb hx;rw[Yp hx]at e0;generalize (putP f outs ot k d.words).idxOf j=s' at *;have hs':s'<d.words.length:=by omega
    have h4:=hon t s' ht hs';rw[pay t ht,pay s' hs',gc t s' _ htw e0,gc t t _ htw (psa t ht)]at h4;rw[Zk,h2]at h4;have e5:(some w').getD (0:Int)=w':=rfl;rw[e5]at h4;omega
def w6(R:List (List Str))(ms:List Addr):List (List Key×V):=List.zipWith (fun r c=>(z7 r,V.ref c)) R ms
theorem j8:∀{R:List (List Str)} {ms:List Addr},ms.length=R.length->(w6 R ms).map (·.1)=R.map z7
  | [],[],_=>rfl
  | [],_::_,h=>by cases h
  | _::_,[],h=>by cases h
  | r::R,c::ms,h=>by
    show z7 r::(w6 R ms).map (·.1)=z7 r::R.map z7
    rw[j8 (by simpa using h)]
theorem zg3{R:List (List Str)}{ms:List Addr}{j:Nat}{r:List Str}{c:Addr}(hl:ms.length=R.length)(hn:R.Nodup)(h1:R[j]? = some r)(h2:ms[j]? = some c):valV (w6 R ms) (z7 r)=some (V.ref c):=by
  refine dj (by rw[j8 hl];exact Yw.mpr (List.Pairwise.imp (fun {a b} hab e=>hab (vv e)) hn)) ?_;refine Zi (i:=j) ?_;rw[w6,List.getElem?_zipWith,h1,h2]
theorem zhd{R:List (List Str)}{ms:List Addr}{r:List Str}{c:Addr}(hl:ms.length=R.length)(h:r∉R):putK (w6 R ms) (z7 r) (V.ref c)=w6 (R++[r]) (ms++[c]):=by
  have no:valV (w6 R ms) (z7 r)=none:=by
    cases e:valV (w6 R ms) (z7 r) with
    | none=>rfl
    | some v =>
      exfalso
      have:=da e;rw[j8 hl]at this;obtain⟨q,hq,eq⟩:=Zp.mp this;exact h (vv eq▸hq)
  rw[kc _ no,w6,w6,List.zipWith_append hl.symm];rfl
structure Menus49(H H':Hp)(m:Addr)(ms:List Addr)(R:List (List Str))(outs:List Str)(d:HD)(k:Nat)(f:List Str->Str):Prop where
  same:Same H H'
  nm:H m=none
  at':H' m=some (.dT (w6 R ms))
  len:ms.length=R.length
  menu:∀(j:Nat) (c:Addr) (ot:List Str),ms[j]? = some c->R[j]? = some ot->∃gs,H' c=some (.dK (wu outs (putP f outs ot k d.words) gs outs.length))/\Great (colP d (putP f outs ot k d.words)) d.words.length gs
theorem Menus49.put{H H' H2:Hp}{m c:Addr}{ms:List Addr}{R:List (List Str)}{outs:List Str}{d:HD}{k:Nat}{f:List Str->Str}{ot:List Str}{gs:List (Int×List Nat×Addr)}(N:Menus49 H H' m ms R outs d k f)(S:Same H' H2)(h:ot∉R)(hc:H2 c=some (.dK (wu outs (putP f outs ot k d.words) gs outs.length)))(Gt:Great (colP d (putP f outs ot k d.words)) d.words.length gs):Menus49 H (upd H2 m (.dT (putK (w6 R ms) (z7 ot) (V.ref c)))) m (ms++[c]) (R++[ot]) outs d k f:=by
  have m2:=S _ _ N.at';refine⟨Same.upd (N.same.trans S) N.nm,N.nm,by rw[zd,zhd N.len h],by rw[Zo,Zo,N.len];rfl,fun j e ot' e1 e2 => ?_⟩
  rcases zc9 N.len e1 e2 with ⟨z1,z2⟩ | ⟨z1,z2⟩
  . obtain⟨gs',h1,h2⟩:=N.menu j e ot' z1 z2
    refine⟨gs',?_,h2⟩;rw[zp (fun z=>by rw[z,N.at']at h1;cases h1)];exact S _ _ h1
  . have:j-ms.length=0:=by have:=(Zc.mp z1).1;simp at this;omega
    rw[this]at z1 z2;cases z1;cases z2;refine⟨gs,?_,Gt⟩;rw[zp (fun z=>by rw[z,m2]at hc;cases hc)];exact hc
theorem zjc{mk:List (Key×V)}{outs:List Str}{ws:List Int}{i j:Nat}{o o':Str}{n:Int}(h:ie mk outs ws i o n)(b:zdh mk outs ws j o'):ie mk outs ws j o' n:=by
  obtain⟨a1,w,p,a2,a3,a4,a5⟩:=h;obtain⟨b1,w',p',b2,b3,b5⟩:=b;have h1:=a5 j o' w' p' b1 b2 b3;have h2:=(b5 i o w p a1 a2 a3).1;exact⟨b1,w',p',b2,b3,by omega,fun j2 o2 w2 p2 c1 c2 c3=>(b5 j2 o2 w2 p2 c1 c2 c3).1⟩
theorem zj9{mk:List (Key×V)}{outs:List Str}{ws:List Int}{i:Nat}{o:Str}{n:Int}(h:ie mk outs ws i o n):0<mk.length:=by
  obtain⟨a1,w,p,a2,a3,a4,a5⟩:=h
  cases mk with
  | nil=>cases a3
  | cons x r=>exact Nat.succ_pos _
theorem Menus49.menus{H H':Hp}{m:Addr}{ms:List Addr}{outs:List Str}{ds:List HD}{d:HD}{k:Nat}{f:List Str->Str}{rs:List (List Str)}(G:GoodHouse outs ds)(hmd:d∈ds)(nd:rs.Nodup)(hD:∀ot∈rs,∀u∈d.words,f (insP ot k u)∈outs)(N:Menus49 H H' m ms rs.reverse outs d k f):MenusAt H' m (w6 rs.reverse ms) outs rs/\∀ot∈rs,∃me gs,valV (w6 rs.reverse ms) (z7 ot)=some (V.ref me)/\H' me=some (.dK (wu outs (putP f outs ot k d.words) gs outs.length))/\Great (colP d (putP f outs ot k d.words)) d.words.length gs:=by
  have nd':rs.reverse.Nodup:=YV.mpr (List.Pairwise.imp (fun h=>Ne.symm h) nd)
  have all:∀ot∈rs,∃me gs,valV (w6 rs.reverse ms) (z7 ot)=some (V.ref me)/\H' me=some (.dK (wu outs (putP f outs ot k d.words) gs outs.length))/\Great (colP d (putP f outs ot k d.words)) d.words.length gs:=fun ot hot=>by
    obtain⟨j,hj⟩:=ZW (YB.mpr hot);have lj:=(Zc.mp hj).1;have ej:ms[j]? = some (ms[j]'(by rw[N.len];exact lj)):=Zb _;obtain⟨gs,h1,h2⟩:=N.menu j _ ot ej hj;exact⟨_,gs,zg3 N.len nd' hj ej,h1,h2⟩
  have o8:=G.outs1.2;have w1:=(G.words1 d hmd).1;refine⟨⟨N.at',?_,fun r hr => ?_⟩,all⟩
  . rw[w6,List.length_zipWith,N.len,ZN,Nat.min_self]
  . obtain⟨me,gs,v1,v2,v3⟩:=all r hr
    refine⟨me,_,v1,v2,zds G.outsD o8,zj9 (zi3 G hmd (t:=0) (by omega) (fun u hu=>hD r hr u hu) v3),?_⟩;rw[wu,Za];exact Zd (YW _ _) (by rw[ZY];omega)
theorem asG49{H' H2:Hp}{outs:List Str}{ds:List HD}{d:HD}{k:Nat}{f g:List Str->Str}{kvs:List (List Key×V)}{r:List Str}(G:GoodHouse outs ds)(hd:ds[k]? = some d)(S:Same H' H2)(hr:r∈zz (ds.map HD.words))(hD:∀u∈d.words,f (insP (r.eraseIdx k) k u)∈outs)(all:∀ot∈zz ((ds.eraseIdx k).map HD.words),∃me gs,valV kvs (z7 ot)=some (V.ref me)/\H' me=some (.dK (wu outs (putP f outs ot k d.words) gs outs.length))/\Great (colP d (putP f outs ot k d.words)) d.words.length gs)(pk:zac H' kvs outs d k r (g r)):AsG H2 outs d k kvs f g (zz (ds.map HD.words)) r:=by
  have hmd:=Zi hd;have hk:=(Zc.mp hd).1;have hpk:=rowsP_iff.mp hr;have lr:r.length=ds.length:=by rw[hpk.1,Za]
  obtain⟨z,e1,e2⟩:=hpk.2 k d.words (by rw[Ze,hd];rfl);have ez:r.getD k ⟨#[]⟩=z:=by rw[Zk,e1];rfl
  have h4:=G.hands.2;obtain⟨me,gs,v1,v2,v3⟩:=all _ (fg hr k);obtain⟨t,ht,et⟩:=List.mem_iff_getElem.mp e2;have er:insP (r.eraseIdx k) k d.words[t]=r:=by rw[et];exact ins_of e1
  have g1:=zi3 G hmd ht hD v3;rw[er,et]at g1;obtain⟨j,bj⟩:=pk me _ v1 v2;rw[ez]at bj;refine⟨by omega,by omega,by rw[ez];exact e2,hr,me,_,_,_,j,v1,S _ _ v2,zds G.outsD G.outs1.2,by rw[ez];exact g1,by rw[ez];exact zjc g1 bj⟩
def zgy(K:Fg):Sp:=fun vs H Q _=>∃(a:Addr) (ns:List Int),vs=[.ref a]/\SqL K H a (ns.map V.int)/\ns.length<=63/\∀H',Q (.bl true) H'
theorem zih {K:Fg} {f:Addr} {fd:FuncData} (F:Fun K "law" "law" dn f fd) (s:Shared) (u:Value):BindsTo s fd ⟨[u],[]⟩ [("script", u)]:=by
  obtain⟨oc,od,kV,doc,pm,an,cdv,ct,osl,rfl,lk,hcd⟩:=F.ex;exact .of_eq rfl
theorem zhh{α:Type}{o:List α}{wss:List (List α)}{k:Nat}{ws:List α}{u:α}(hk:wss[k]? = some ws)(h:zb6 o (wss.eraseIdx k))(hu:u∈ws):zb6 (insP o k u) wss:=by
  have hkl:=(Zc.mp hk).1;have lo:o.length+1=wss.length:=by have:=h.1;rw[ZO hkl]at this;omega
  refine⟨by rw[zku u (by omega)];exact lo,fun j vs e => ?_⟩
  by_cases ej:j=k
  . subst ej
    rw[hk]at e;cases e;exact⟨u,zmn u (by omega),hu⟩
  . have lt:(o.take k).length=k:=by rw[Zj];omega
    by_cases hj:j<k
    . obtain⟨z,a1,a2⟩:=h.2 j vs (by rw[Yi,if_pos hj];exact e)
      refine⟨z,?_,a2⟩;rw[insP,Zg (by omega),List.getElem?_take,if_pos hj];exact a1
    . obtain⟨z,a1,a2⟩:=h.2 (j-1) vs (by rw[Yi,if_neg (by omega),show j-1+1=j by omega];exact e)
      refine⟨z,?_,a2⟩;rw[insP,Zf (by omega),lt];obtain⟨i,hi⟩:∃i,j-k=i+1:=⟨j-k-1,by omega⟩;rw[hi,YM,Xe];rw[show k+i=j-1 by omega];exact a1
theorem zkq(ds:List HD)(k:Nat):∀n,k<=n->∃rest,dueK ds n=dueK ds k++rest:=by
  intro n h
  induction n with
  | zero=>exact⟨[],by rw[Nat.le_zero.mp h,Ye]⟩
  | succ n ih =>
    rcases Nat.lt_or_eq_of_le h with z | z
    . obtain⟨rest,e⟩:=ih (by omega)
      exact⟨rest++_,by rw[jt,e,List.append_assoc]⟩
    . exact⟨[],by rw[z,Ye]⟩
theorem zlu{ds:List HD}{k n:Nat}{ot:List Str}(hk:k<n)(h:ot∈zz ((ds.eraseIdx k).map HD.words)):(k,ot)∈dueK ds n:=by
  obtain⟨rest,e⟩:=zkq ds (k+1) n hk;rw[e,jt];exact ZQ _ (Zu _ (Zp.mpr ⟨ot,h,rfl⟩))
def tops38:List Int:=[5,3,2,2]
theorem zbd:Tops tops38:=⟨rfl,by decide⟩
theorem zhb:FewT tops38:=by unfold FewT;decide
def PvK49(st:L2.St)(H:Hp)(k:Nat)(σ:L2.St)(H':Hp):Prop:=Same H H'/\∃v1 v2 v3 v4:Option V,σ=st++[v1,v2,v3,v4]
def PvO49(st:L2.St)(v4:Option V)(H:Hp)(m sl:Addr)(as:List Addr)(R:List (List Str))(outs:List Str)(d:HD)(k:Nat)(f:List Str->Str)(i:Nat)(σ:L2.St)(H':Hp):Prop:=∃(ms:List Addr) (v3:Option V),Menus49 H H' m ms (R.take i) outs d k f/\H' sl=some (.lst (as.map V.ref))/\TupsAt H' as R/\σ=st++[v3,v4]
section
variable{P:Program}{w:World}{K:Fg}{mg:Str->Option Value}{base:Heap}{a:Ad}
theorem law_fn (B:Bt mg) (C:Ct K mg a) (j9:FnAt P w K mg base "_law_parts" 3 ["script", "tops"] (zey K)) (f_house_of:FnAtX P w K mg base "house_of" 7 ["outcomes", "hands"] zcz) (kw:FnAt P w K mg base "_law_places" 3 ["script", "outcomes", "hands"] (zbq K)) (j4:FnAt P w K mg base "_law_table" 1 ["outcomes", "places"] zdt) (v8:FnAt P w K mg base "others_of" 3 ["house", "k"] (mh K)) (g9:FnAt P w K mg base "verdict" 9 ["house", "table"] (zbo K)) (ma:FnAt P w K mg base "_law_refused" 9 ["house", "table", "k", "others"] zjp) (nj:FnAtX P w K mg base "menu_of" 8 ["house", "table", "k", "others"] (c0 a)) (nw:FnAtX P w K mg base "menus_table" 5 ["house", "k", "menus"] (zdu K)) (nt:FnAt P w K mg base "_law_as_good" 2 ["outcomes", "hand", "k", "table", "other", "menus"] zdb) {f:Addr} {fd:FuncData} (F:Fun K "law" "law" dn f fd):FnOk P w K mg base CX0 10 f fd ["script"] (zgy K):=by
  refine F.ok sc_law (fun vs H Q E h=>by obtain⟨b,ns,rfl,_⟩:=h;rfl) (fun cdv A outer s H vs Q E hr h => ?_);obtain⟨a,ns,rfl,hS,hlen,q⟩:=h;refine⟨_,(@zj _ _ _ _ _ (f7 (zi j9 (hr.mono (by decide)) rfl (@za _ _ _ _ _ (pv 0) (@za _ _ _ _ _ (@w9 _ _ _ _ (@za _ _ _ _ _ (@zg _ _ _ _) (@za _ _ _ _ _ (@zg _ _ _ _) (@za _ _ _ _ _ (@zg _ _ _ _) (@za _ _ _ _ _ (@zg _ _ _ _) (@zb _) (yd nofun)) (yd nofun)) (yd nofun)) (yd nofun))) (@zb _) (yd nofun)) (yd nofun))) (si rfl (yx (zn (i:=1) sc_law.nd rfl (Or.inl rfl)) (yx (zn (i:=2) sc_law.nd rfl (Or.inl rfl)) (@uw _))))) (@zj _ _ _ _ _ (zw (i:=3) sc_law.nd rfl (Or.inl rfl) (gp f_house_of (hr.mono (by decide)) rfl (za (pv 1) (za (pv 2) (@zb _))))) (@zj _ _ _ _ _ (zw (i:=4) sc_law.nd rfl (Or.inl rfl) (zi j4 (hr.mono (by decide)) rfl (za (pv 1) (za (zi kw (hr.mono (by decide)) rfl (za (pv 0) (za (pv 1) (za (pv 2) (@zb _))))) (@zb _))))) (@zj _ _ _ _ _ (zw (i:=5) sc_law.nd rfl (Or.inl rfl) (zi g9 (hr.mono (by decide)) rfl (za (pv 3) (za (pv 4) (@zb _))))) (@zj _ _ _ _ _ (@xg _ _ _ _ _ _ _ _ (@yn _ _ _ _ _ _ _ _ pq (@z0 _ _ _ _ _ _ _ yh (pv 5) (@zg _ _ _ _) (fun _ _=>rfl)) (@rk _ _ _ _) (yt _)) (@zh _ _ _ (@zm _ _ _ _ (zi ma (hr.mono (by decide)) rfl (za (pv 3) (za (pv 4) (za (@z0 _ _ _ _ _ _ _ yh (pv 5) (@zg _ _ _ _) (fun _ _=>rfl)) (za (@z0 _ _ _ _ _ _ _ yh (pv 5) (@zg _ _ _ _) (fun _ _=>rfl)) (@zb _)))))))) (@ye _)) (@zj _ _ _ _ _ (we PassesOwn.never rfl (yv rfl B.range (za (zq zt rfl B.len yc (za (pv 2) (@zb _))) (@zb _))) (zn (i:=6) sc_law.nd rfl (Or.inl rfl)) (@zj _ _ _ _ _ (zw (i:=7) sc_law.nd rfl (Or.inl rfl) (@cj _ _)) (@zj _ _ _ _ _ (we PassesOwn.never rfl (@yk _ _ _ _ (@ze8 _ _ _ _ _ _ _ (zi v8 (hr.mono (by decide)) rfl (za (pv 3) (za (pv 6) (@zb _)))) (@tm _ _ _ (@bx _ _ _ _ _ _ fm (@zg _ _ _ _))))) (zn (i:=8) sc_law.nd rfl (Or.inl rfl)) (@zh _ _ _ (f7 (gp nj (hr.mono (by decide)) rfl (za (pv 3) (za (pv 4) (za (pv 6) (za (pv 8) (@zb _)))))) (ax (pv 7) (pv 8) (i9 (hu10 hr)))))) (@zj _ _ _ _ _ (zw (i:=9) sc_law.nd rfl (Or.inl rfl) (gp nw (hr.mono (by decide)) rfl (za (pv 3) (za (pv 6) (za (pv 7) (@zb _)))))) (@zj _ _ _ _ _ (@xg _ _ _ _ _ _ _ _ (@yn _ _ _ _ _ _ _ _ db (zq nk rfl B.len yc (za (pv 9) (@zb _))) (zq nk rfl B.len yc (za (pv 4) (@zb _))) (yt _)) (@zh _ _ _ (@zm _ _ _ _ (@vz _ _ _ _))) (@ye _)) (@zh _ _ _ (@xg _ _ _ _ _ _ _ _ (@vm _ _ _ _ (v6 (zi nt (hr.mono (by decide)) rfl (@za _ _ _ _ _ (pv 1) (@za _ _ _ _ _ (@z0 _ _ _ _ _ _ _ yf (pv 2) (pv 6) (fun _ _=>rfl)) (@za _ _ _ _ _ (pv 6) (@za _ _ _ _ _ (pv 4) (@za _ _ _ _ _ (pv 9) (@za _ _ _ _ _ (pv 7) (@zb _) (yd nofun)) (yd nofun)) (yd nofun)) (yd nofun)) (yd nofun)) (yd nofun))))) (@zh _ _ _ (@zm _ _ _ _ (@vz _ _ _ _))) (@ye _)))))))) (@zh _ _ _ (@zm _ _ _ _ (@vz _ _ _ _))))))))),?_⟩;rw[show start ["script", "outcomes", "hands", "house", "table", "found", "k", "menus", "others", "other"] [V.ref a]=[some (V.ref a),none,none,none,none,none,none,none,none,none] from rfl];refine hide3 fun T hT => ?_
  (try dsimp only[xp,e_C,e_op,e_rI,xq,xt,x6,xx,x9,y4,e_B,x0,e_or,wb,x5,x8,y9,xw,y3,xz,xu,xy,yi,xr,y0,wc,xv,y7,e_CB,e_BM,y8,e_iL,wa,y6,cxK,noxK,xc,yz,yl]);(try simp only[zf,ze,↓reduceIte])
  refine⟨by decide,fun tp htp => ?_⟩;have S0:Same H (upd H tp (.lst [V.int 5,V.int 3,V.int 2,V.int 2])):=Same.upd (Same.refl _) htp;have hTp:upd H tp (.lst [V.int 5,V.int 3,V.int 2,V.int 2]) tp=some (.lst (tops38.map V.int)):=zd;generalize upd H tp (.lst [V.int 5,V.int 3,V.int 2,V.int 2])=H0 at *;refine⟨a,tp,ns,tops38,rfl,S0.seq hS,.of hTp,zbd,fun H1 H2 H3 o b p xs S1 ho ho1 N hp e3 => ?_⟩;subst e3;have S3:Same H2 (upd H2 p (.tup [V.ref o,V.ref b])):=Same.upd (Same.refl _) hp;have hp3:upd H2 p (.tup [V.ref o,V.ref b]) p=some (.tup [V.ref o,V.ref b]):=zd;generalize upd H2 p (.tup [V.ref o,V.ref b])=H3 at *;simp only[zf,ze,↓reduceIte];refine⟨_,.of hp3,rfl,?_⟩;simp only[zf,ze,↓reduceIte];have G:=goodA ns zbd zhb;have oF:H3 o=some (.lst ((pz ns).map V.str)):=(N.same.trans S3) _ _ ho1;have bF:HandsL H3 b xs (v0 ns tops38 (uc ns)):=N.lists.mono S3;have S03:Same H H3:=S0.trans (S1.trans (N.same.trans S3));generalize v0 ns tops38 (uc ns)=ds at *;generalize pz ns=outs at *;refine⟨o,b,outs,xs,ds,rfl,oF,bF,G,fun H4 p ko kh hs S4 hK => ?_⟩;simp only[zf,ze,↓reduceIte];have S04:=S03.trans S4;have b4:=bF.mono S4;refine⟨a,o,b,ns,outs,xs,ds,rfl,S04.seq hS,S4 _ _ oF,b4,G,fun H5 t pl S5 ht5 hpl => ?_⟩;simp only[zf,ze,↓reduceIte]
  have hnd:(zz (ds.map HD.words)).Nodup:=p0 fun ws hws=>by
    obtain⟨d,hd,rfl⟩:=Zp.mp hws;exact G.wordsD d hd
  have few:(zz (ds.map HD.words)).length<=4096:=by
    have:=ug (wss:=ds.map HD.words) (by rw[Za];exact G.hands.2) (fun ws hws=>by
      obtain⟨d,hd,rfl⟩:=Zp.mp hws
      exact(G.words1 d hd).2) (ds.map HD.words).length (Zm _)
    rw[Zt]at this;exact this
  refine⟨o,t,outs,pl,_,rfl,S5 _ _ (S4 _ _ oF),ht5,hnd,few,hpl,fun H6 td S6 h6 => ?_⟩;have hK6:=hK.mono (S5.trans S6);have b6:=b4.mono (S5.trans S6);have o6:=(S4.trans (S5.trans S6)) _ _ oF
  have AD:bc (fun r=>outs.getD (pl r) ⟨#[]⟩) (zz (ds.map HD.words)).reverse outs ds:=fun k d ot hd hot=>by
    have kl:=(Zc.mp hd).1;have lo:=(rowsP_iff.mp hot).1;rw[Za,ZO kl]at lo;have:=G.hands.2;rw[ur]at hot;refine⟨by omega,by omega,fun u hu => ?_⟩;have i3:=rowsP_iff.mpr (zhh (k:=k) (ws:=d.words) (wss:=ds.map HD.words) (by rw[Ze,hd];rfl) (rowsP_iff.mp hot) hu);refine⟨YB.mpr i3,?_⟩;have:=hpl _ i3
    show outs.getD _ _∈outs
    rw[Zk,Zb this];exact Zl this
  generalize (fun r=>outs.getD (pl r) ⟨#[]⟩)=ft at *;rw[hT];clear hT T;simp only[zf,ze,↓reduceIte];refine⟨p,ko,kh,td,hs,outs,ds,_,_,rfl,hK6,G,h6,AD,fun H7 tp l as S7 htp hl PA => ?_,fun H7 tp c l i x cy S7 ex no htp hc hl R => ?_⟩
  . have noA:∀x∈dueK ds ds.length,ij (ww ft outs ds x) (ub ds x):=fun x hx=>by
      obtain⟨j,hj⟩:=ZW hx;have lj:=(Zc.mp hj).1;obtain⟨c,gs,h1,h2,h3⟩:=PA.at' j (as[j]'(by rw[PA.len];exact lj)) x (Zb _) hj;exact h3.no
    refine⟨tp,rfl,_,.of htp,_,zy (j:=0) rfl,rfl,ite2 (fun h=>absurd h (by decide)) fun _ => ?_⟩;have h4:=G.hands;have b7:=b6.mono S7;refine⟨_,.inl (.of b7.at'),?_⟩;rw[Za,b7.len];refine⟨by omega,by omega,?_⟩;rw[Zw];refine vg (PvK49 [some (V.ref a),some (V.ref o),some (V.ref b),some (V.ref p),some (V.ref td),some (V.ref tp)] H7) ⟨Same.refl _,_,_,_,_,rfl⟩ ?_ ?_
    . rintro k σ H8 hk ⟨S8,v1,v2,v3,v4,rfl⟩
      rw[show(0:Int)+(k:Int)=((k:Nat):Int) by omega];have ed:ds[k]? = some ds[k]:=Zb hk;generalize ds[k]=d at ed;have hmd:=Zi ed;obtain⟨x,hx⟩:∃x,xs[k]? = some x:=⟨xs[k]'(by rw[b6.len];exact hk),by simp⟩
      have fewo:=ug (wss:=(ds.eraseIdx k).map HD.words) (by rw[Za,ZO hk];omega) (fun ws hws=>by
        obtain⟨d,hd,rfl⟩:=Zp.mp hws
        exact(G.words1 d (Yd hd)).2) _ (Zm _)
      rw[Zt]at fewo
      have ndo:(zz ((ds.eraseIdx k).map HD.words)).Nodup:=p0 fun vs hvs=>by
        obtain⟨d,hd,rfl⟩:=Zp.mp hvs;exact G.wordsD d (Yd hd)
      have ndr:(zz ((ds.eraseIdx k).map HD.words)).reverse.Nodup:=YV.mpr (List.Pairwise.imp (fun h=>Ne.symm h) ndo);have S68:=S7.trans S8;refine zgj fun T hT => ?_
      simp only[zf,ze,↓reduceIte,ZV,ZT];intro m hm;have S9:Same H8 (upd H8 m (.dT [])):=Same.upd (Same.refl _) hm;have m9:upd H8 m (.dT []) m=some (.dT []):=zd;generalize upd H8 m (.dT [])=H9 at *;refine⟨p,ko,kh,hs,outs,ds,k,rfl,(hK6.mono (S68.trans S9)).k,hk,h4.2,fun d hd=>(G.words1 d hd).2,fun H10 ol oas S10 _ hR => ?_⟩;refine⟨ol,rfl,_,.of hR.lst,fun sl hsl => ?_⟩;rw[<-List.map_reverse];have S11:Same H10 (upd H10 sl (.lst (oas.reverse.map V.ref))):=Same.upd (Same.refl _) hsl;have t11:upd H10 sl (.lst (oas.reverse.map V.ref)) sl=some (.lst (oas.reverse.map V.ref)):=zd;generalize upd H10 sl (.lst (oas.reverse.map V.ref))=H11 at *
      have TR:TupsAt H11 oas.reverse (zz ((ds.eraseIdx k).map HD.words)).reverse:=by
        refine⟨by rw[ZN,ZN,hR.tups.len],fun i b r e1 e2 => ?_⟩;have l1:=(Zc.mp e1).1;have l2:=(Zc.mp e2).1;rw[ZN]at l1 l2;rw[Yx l1]at e1;rw[Yx l2,<-hR.tups.len]at e2;exact S11 _ _ (hR.tups.at' _ b r e1 e2)
      refine⟨⟨_,.of t11⟩,?_⟩;refine uk (xs:=oas.reverse.map V.ref) (PvO49 [some (V.ref a),some (V.ref o),some (V.ref b),some (V.ref p),some (V.ref td),some (V.ref tp),some (V.int k),some (V.ref m)] v4 H8 m sl oas.reverse (zz ((ds.eraseIdx k).map HD.words)).reverse outs d k ft) ⟨[],_,⟨S9.trans (S10.trans S11),hm,(S10.trans S11) _ _ m9,rfl,fun j c ot e=>by simp at e⟩,t11,TR,rfl⟩ ?_ ?_ ?_
      . rintro i σ H12 hi ⟨ms,w1,N12,l12,T12,rfl⟩
        exact .of l12
      . rintro i y σ H12 hy ⟨ms,w1,N12,l12,T12,rfl⟩
        obtain⟨c2,hc2,rfl⟩:=kt hy;have hi:i<(zz ((ds.eraseIdx k).map HD.words)).reverse.length:=by rw[<-TR.len];exact(Zc.mp hc2).1
        have er:(zz ((ds.eraseIdx k).map HD.words)).reverse[i]? = some (zz ((ds.eraseIdx k).map HD.words)).reverse[i]:=Zb hi;have hot:=YB.mp (Zl hi)
        have hnot:(zz ((ds.eraseIdx k).map HD.words)).reverse[i]∉(zz ((ds.eraseIdx k).map HD.words)).reverse.take i:=fun z=>by
          obtain⟨j,hj⟩:=ZW z;have lj:=(Zc.mp hj).1;rw[Zj]at lj;rw[Yn (by omega)]at hj;exact Yb.mp ndr j i (by omega) hi (by omega) (Zc.mp hj).2
        generalize (zz ((ds.eraseIdx k).map HD.words)).reverse[i]=ot at er hot hnot;have hct:=T12.at' i c2 ot hc2 er;have S612:=S68.trans N12.same;have noK:=noA _ (zlu hk hot);rw[lq ed,jd ed]at noK;simp only[zf,ze,↓reduceIte,ZV,ZT];refine⟨p,ko,kh,td,c2,hs,outs,ds,ft,_,ot,k,d,rfl,hK6.mono S612,G,S612 _ _ h6,ed,hct,AD k d ot ed hot,fun H13 me gs S13 hmn hme Gt => ?_,fun H13 cy S13 R=>(zcn noK R).elim⟩;have c13:=S13 _ _ hct;refine⟨_,DPut.t (k:=z7 ot) (S13 _ _ N12.at') (by rw[wj];exact c13) ?_,?_⟩
        . rw[w6,List.length_zipWith,N12.len,Zj,ZN,Nat.min_self]
          exact Zh (show _<8192 by omega) (by decide)
        have NN:=N12.put S13 hnot hme Gt;have keep:∀e u,e≠m->H12 e=some u->upd H13 m (.dT (putK (w6 ((zz ((ds.eraseIdx k).map HD.words)).reverse.take i) ms) (z7 ot) (V.ref me))) e=some u:=fun e u he h=>by rw[zp he];exact S13 _ _ h
        refine⟨_,_,by rw[Zq,er];exact NN,keep _ _ (fun z=>by rw[z,N12.at']at l12;cases l12) l12,⟨T12.len,fun j e r e1 e2 => ?_⟩,rfl⟩;have h1:=T12.at' j e r e1 e2;exact keep _ _ (fun z=>by rw[z,N12.at']at h1;cases h1) h1
      . rintro σ H12 ⟨ms,w1,N12,l12,T12,rfl⟩
        rw[Za,TR.len,Zt]at N12;have S612:=S68.trans N12.same;obtain⟨MM,all⟩:=N12.menus G hmd ndo fun ot hot u hu=>((AD k d ot ed hot).2.2 u hu).2
        show T _ _ _
        rw[hT];clear hT T;simp only[zf,ze,↓reduceIte,ZV,ZT];refine⟨p,ko,kh,m,hs,outs,ds,k,d,_,rfl,hK6.mono S612,G,ed,MM,fun H13 u g S13 hu hu13 pk => ?_⟩;have S613:=S612.trans S13;have td13:=S613 _ _ h6;have b13:=b6.mono S613;have ntu:td≠u:=fun z=>by have:=S612 _ _ h6;rw[z,hu]at this;cases this
        have ntm:td≠m:=fun z=>by have:=S68 _ _ h6;rw[z,hm]at this;cases this
        have elen:(yb g (zz (ds.map HD.words))).length=(yb ft (zz (ds.map HD.words)).reverse).length:=by rw[yb,yb,Za,Za,ZN]
        refine⟨u,rfl,_,hu13,_,td13,rfl,ite2 (fun h => ?_) fun _=>⟨_,.of b13.at',_,zy (v:=V.ref x.t) (by rw[Ze,hx];rfl),o,td,u,m,x,outs,ds,d,k,ft,g,_,_,_,rfl,S613 _ _ o6,b13.hand k x d hx ed,G,hmd,td13,hu13,ntu,ntm,S13 _ _ N12.at',fun r hr => ?_,fun H14 S14=>⟨_,rfl,iteF ⟨S8.trans (N12.same.trans (S13.trans S14)),_,_,_,_,rfl⟩⟩⟩⟩
        . rw[elen,decide_eq_true rfl]at h
          cases h
        . have hr':=YB.mp hr
          exact asG49 G ed S13 hr' (fun z hz=>((AD k d _ ed (fg hr' k)).2.2 z hz).2) all (pk r hr')
    . rintro σ H8 ⟨S8,v1,v2,v3,v4,rfl⟩
      simp only[zf,ze,↓reduceIte,ZV,ZT];exact q _
  . obtain⟨k',ot⟩:=x
    obtain⟨hk',hot⟩:=cp (Zi ex);have ed:ds[k']? = some ds[k']:=Zb hk';generalize ds[k']=d at ed;rw[lq ed,jd ed]at R;exact⟨tp,rfl,_,.of htp,_,zy (j:=0) rfl,rfl,ite2 (fun _=>⟨tp,rfl,_,.of htp,_,zy (j:=1) rfl,tp,rfl,_,.of htp,_,zy (j:=2) rfl,p,ko,kh,td,c,hs,outs,ds,ft,_,ot,k',d,cy,rfl,⟨hK6.mono S7,G,S7 _ _ h6,ed,hc,AD k' d ot ed hot⟩,R,fun H8 S8=>q _⟩) fun h=>absurd (decide_eq_true rfl) h⟩
theorem law_ok (B:Bt mg) (C:Ct K mg a) (d_is_whole:zc K mg "is_whole" mr ["thing"]) (d_is_bounded:zc K mg "is_bounded" qe ["thing"]) (d_is_grid_row:zc K mg "is_grid_row" ra ["thing", "width"]) (d_turn:zc K mg "turn" ay ["grid", "s", "t"]) (d_gain:zc K mg "gain" zah ["grid", "pays", "t", "s"]) (d_first_gain:zc K mg "first_gain" r6 ["grid", "pays"]) (d_is_name:zc K mg "is_name" ju ["thing"]) (d_are_names:zc K mg "are_names" pj ["thing", "most"]) (d_are_worths:zc K mg "are_worths" qm ["thing", "height", "width"]) (d_is_hand:zc K mg "is_hand" jk ["thing", "width"]) (d_name_of:zc K mg "name_of" ja ["hand"]) (d_names_of:zc K mg "names_of" m5 ["hands"]) (d_words_of_hand:zc K mg "words_of_hand" vx ["hand"]) (d_worths_of_hand:zc K mg "worths_of_hand" vn ["hand"]) (d_worths_by:zc K mg "worths_by" oi ["hand", "word"]) (d_count_of_rows:zc K mg "count_of_rows" u3 ["hands"]) (d_makes_house:zc K mg "makes_house" su ["outcomes", "hands"]) (d_kept_hand:zc K mg "kept_hand" pi ["hand"]) (d_house_of:zc K mg "house_of" ml ["outcomes", "hands"]) (d_outcomes_of:zc K mg "outcomes_of" rb ["house"]) (d_hands_of:zc K mg "hands_of" my ["house"]) (d_with_each:zc K mg "with_each" px ["rows", "words"]) (d_rows_over:zc K mg "rows_over" pw ["hands"]) (d_rows_of:zc K mg "rows_of" ji ["house"]) (d_without:zc K mg "without" jf ["things", "k"]) (d_others_of:zc K mg "others_of" oh ["house", "k"]) (d_row_with:zc K mg "row_with" mz ["others", "k", "word"]) (d_total_of:zc K mg "total_of" mj ["walk"]) (d_words_of:zc K mg "words_of" mm ["walk"]) (d_walks_of_one_turn:zc K mg "walks_of_one_turn" vq ["grid", "s"]) (d_least_to:zc K mg "least_to" qi ["grid", "walks", "t"]) (d_lengthened:zc K mg "lengthened" u9 ["grid", "walks"]) (d_after_a_turn:zc K mg "after_a_turn" tu ["grid", "totals", "t"]) (d_has_honest:zc K mg "has_honest" qf ["grid"]) (d_closed_below_zero:zc K mg "closed_below_zero" vt ["rows"]) (d_ring:zc K mg "ring" ar ["grid"]) (d_refuse_ring:zc K mg "refuse_ring" sy ["grid"]) (d_lesser:zc K mg "lesser" ge ["walk", "longer"]) (d_least_roads:zc K mg "least_roads" sw ["grid", "walks"]) (d_greatest:zc K mg "greatest" m6 ["grid"]) (d_is_outcome:zc K mg "is_outcome" qt ["house", "thing"]) (d_dealt_places:zc K mg "dealt_places" tq ["house", "table", "k", "others"]) (d_worths_at:zc K mg "worths_at" ph ["worths", "places"]) (d_grid_of:zc K mg "grid_of" jq ["house", "table", "k", "others"]) (d_left_of:zc K mg "left_of" jr ["offer"]) (d_outcome_of:zc K mg "outcome_of" qj ["offer"]) (d_pick:zc K mg "pick" ac ["house", "k", "menu", "word"]) (d_menu_of:zc K mg "menu_of" js ["house", "table", "k", "others"]) (d_is_menu:zc K mg "is_menu" jh ["house", "thing"]) (d_are_menus:zc K mg "are_menus" oa ["house", "k", "thing"]) (d_menus_table:zc K mg "menus_table" sm ["house", "k", "menus"]) (d_grids_of:zc K mg "grids_of" mx ["house", "table"]) (d_paper:zc K mg "paper" e7 ["k", "others", "grid"]) (d_verdict:zc K mg "verdict" jo ["house", "table"]) (d_law_cell_at:zc K mg "_law_cell_at" sr ["script", "k"]) (d_law_pool:zc K mg "_law_pool" ya ["cell", "many"]) (d_law_drawn:zc K mg "_law_drawn" om ["script", "k"]) (d_law_worth:zc K mg "_law_worth" pp ["cell"]) (d_law_parts:zc K mg "_law_parts" p8 ["script", "tops"]) (d_law_rows:zc K mg "_law_rows" mq ["hands"]) (d_law_score:zc K mg "_law_score" oj ["hands", "row", "weights", "place"]) (d_law_places:zc K mg "_law_places" qc ["script", "outcomes", "hands"]) (d_law_table:zc K mg "_law_table" p9 ["outcomes", "places"]) (d_law_refused:zc K mg "_law_refused" sv ["house", "table", "k", "others"]) (d_law_gain:zc K mg "_law_gain" m4 ["outcomes", "worths", "menu", "outcome"]) (d_law_as_good:zc K mg "_law_as_good" so ["outcomes", "hand", "k", "table", "other", "menus"]) (base:Heap) {f:Addr} {fd:FuncData} (F:Fun K "law" "law" dn f fd):FnOk P w K mg base CX0 10 f fd ["script"] (zgy K):=by
  have c1:=xh (P:=P) (w:=w) (base:=base) B d_law_cell_at;have c2:=qu (P:=P) (w:=w) (base:=base) B d_law_pool;have c3:=jw (P:=P) (w:=w) (base:=base) d_law_worth;have c4:=v7 B c1 d_law_drawn;have c5:=j9 B c1 c2 c3 c4 d_law_parts;have n1:=o9 (P:=P) (w:=w) (base:=base) B d_is_name;have n2:=uv B n1 d_are_names;have n0:=qw (P:=P) (w:=w) (base:=base) B d_is_whole;have n3:=nv B (kq B n0 d_is_bounded) d_is_grid_row;have n4:=ki B n3 d_are_worths;have n5:=g8 B n1 n2 n4 d_is_hand;have n6:=on (P:=P) (w:=w) (base:=base) d_name_of;have n7:=yr (P:=P) (w:=w) (base:=base) d_words_of_hand;have n8:=wq (P:=P) (w:=w) (base:=base) d_worths_of_hand;have n9:=nq B n2 n5 (i0 n6 d_names_of) (qh B n7 d_count_of_rows) d_makes_house;have n10:=zgc B C n9 (zdv B n6 n7 n8 d_kept_hand) d_house_of;have m1:=zf3 (P:=P) (w:=w) (base:=base) d_hands_of;have m0:=zb2 (P:=P) (w:=w) (base:=base) d_outcomes_of;have mw:=aq (P:=P) (w:=w) (base:=base) d_words_of_hand;have mv:=ci (P:=P) (w:=w) (base:=base) d_worths_of_hand;have mo:=sj B (jx (P:=P) (w:=w) (base:=base) B d_with_each) mw d_rows_over;have t1:=o5 B (vi B (mt B d_row_with) mw m1 m0 d_dealt_places) (j3 d_worths_at) mv m1 d_grid_of;have c7:=u8 (P:=P) (w:=w) (base:=base) d_turn;have c8:=wo (P:=P) (w:=w) (base:=base) d_total_of;have c9:=rp (P:=P) (w:=w) (base:=base) d_words_of;have c14:=fh B (kg B (qy B c7 d_after_a_turn) (l9 B (zdq c7 d_gain) d_first_gain) d_has_honest) (u0 B c7 d_walks_of_one_turn) (u5 B (rj B c7 c8 d_least_to) d_lengthened) (uz B c8 c9 d_closed_below_zero) d_ring;have c18:=nu B (zco B (zgx B c7 c8 d_least_to) d_lengthened) (cf c8 d_lesser) d_least_roads;have c19:=ql B C (ny B C c14 d_refuse_ring) c18 c8 c9 d_greatest;have r2:=oz (P:=P) (w:=w) (base:=base) B d_without;have oo:=v8 B mo m1 r2 d_others_of
  have m2:=j5 mw mv d_worths_by;have m3:=zc4 B m1 m0 m2 (g0 (P:=P) (w:=w) (base:=base) d_left_of) (kd (P:=P) (w:=w) (base:=base) d_outcome_of) d_pick;have r1:=fu B mo m1 d_rows_of;have e1:=ff B (k8 B m0 d_is_outcome) n0 d_is_menu;have e2:=nw B C (j0 B oo e1 d_are_menus) r1 r2 m3 d_menus_table;have dp:=vi B (mt B d_row_with) mw m1 m0 d_dealt_places;have mn:=nj B C c19 t1 dp m0 d_menu_of;have v1:=gx B m1 t1 oo d_grids_of;exact law_fn B C c5 n10 (kw B c1 c4 (iw (P:=P) (w:=w) (base:=base) d_law_rows) (j6 B d_law_score) d_law_places) (j4 B d_law_table) oo (g9 B v1 c14 (zai B c19 d_paper) d_verdict) (ma B C mn d_law_refused) mn e2 (nt B (qv (P:=P) (w:=w) (base:=base) B d_law_gain) d_law_as_good) F
end
end Mine
namespace Tp
open PySem PySem.W PySem.Calls PyProof.Rows
noncomputable section
abbrev pr:Program:=PySem.Challenge.pw_trueword_k49_whole_payable_by_menus
def en(P:Params)(x:Str)(t:Nat)(v:Value):DictEntry:=⟨PyData.keyHash P x,.str x t,v⟩
abbrev fn(i:Nat)(name qual:Str)(dV kV doc pm:Value)(an:Option Addr)(cdv ct:Value):FuncData:=fnOf name qual (L2.rg (Mine.top i)) (L2.xf (Mine.top i)) (L2.zk (Mine.top i)) dV kV doc pm an cdv ct
abbrev fx(i:Nat)(name qual:Str)(g:Addr)(dV kV doc pm:Value)(an:Option Addr)(cdv ct:Value)(b:Addr):FuncData:=⟨name,qual,L2.rg (Mine.top i),.stmts (L2.xf (Mine.top i)),L2.zk (Mine.top i),g,[],dV,kV,doc,pm,an,cdv,ct,b⟩
def oE:Obj:=⟨.type "tuple", none,.seq #[] 0,#[]⟩
def oF:Obj:=⟨.none,none,.fields #[],#[]⟩
def tl:Nat->List Str->List Value
  | _,[]=>[]
  | t,x::r=>.str x t::tl (t+1) r
def ts(t:Nat)(xs:List Str):Obj:=⟨.type "tuple", none,.seq (tl t xs).toArray 0,#[]⟩
def fo(i:Nat)(n m:Str)(t c:Nat):Obj:=⟨.type "function", none,.func (fn i n n .none .none .none (.str m t) none (.ref c) .none),#[]⟩
def xo(i:Nat)(n:Str):Obj:=⟨.none,none,.func (fx i n n 0 .none .none .none .none none .none .none 0),#[]⟩
def co(n:Str)(t l c f a:Nat)(b:Bool)(e:Nat)(v1 v2 v3 v4:Value)(k:Nat):Obj:=⟨.type "code", none,.fields #[.str n t,.str n (t+1),.str "/claim/cut.py" (t+2),.int l 0,.int c 0,.int 0 0,.int 0 0,.int f 0,.ref a,.bool b,.int 181 0,.ref e,v1,v2,v3,v4,.int k 0,.int l 0,.str "/claim/cut.py" (k+1)],#[]⟩
def ia(t:BT):Nat->List Obj->BT
  | _,[]=>t
  | n,o::r=>ia (t.ins n o) (n+1) r
def lf(P:Params):Life:=(boot_heap P).life
def env:Env:={ scope:=pr.main.scope,locals:=mainNs,globals:=mainNs,cells:=[],code:=(.ref 13),frame:=some 14 }
def cd:Code:=.body (behindTheImports pr) env
def qp:Pos:=⟨0,0,0,0⟩
def o13:Obj:=(co "<module>" 182 1 0 0 11 false 12 .none .none .none .none 185)
def ha(P:Params):Heap:=⟨⟨[boot_o_0 P,boot_o_1 P,boot_o_2 P,boot_o_3 P,boot_o_4 P,boot_o_5 P,boot_o_6 P,boot_o_7 P,boot_o_8 P,boot_o_9 P,boot_o_10 P,oE,oF,o13,⟨(.type "frame"),none,.plain,#[(some (.ref 13)),(some (.ref 3)),(some (.ref 3)),none,(some (.str "__main__" 164)),none,(some (.ref 0))]⟩]⟩,lf P⟩
def t0(P:Params):BT:=(.node (boot_o_0 P) (.node (boot_o_1 P) (.node (boot_o_3 P) (.node (boot_o_7 P) .nil .nil) (.node (oE) .nil .nil)) (.node (boot_o_5 P) (.node (boot_o_9 P) .nil .nil) (.node (o13) .nil .nil))) (.node (boot_o_2 P) (.node (boot_o_4 P) (.node (boot_o_8 P) .nil .nil) (.node (oF) .nil .nil)) (.node (boot_o_6 P) (.node (boot_o_10 P) .nil .nil) (.node (⟨(.type "frame"),none,.plain,#[(some (.ref 13)),(some (.ref 3)),(some (.ref 3)),none,(some (.str "__main__" 164)),none,(some (.ref 0))]⟩) .nil .nil))))
def o3(P:Params):Obj:=⟨(.type "dict"),none,(.dict #[en P "__name__" 165 (.str "trueword.houses" 309),en P "__doc__" 166 .none,en P "__package__" 167 .none,en P "__loader__" 168 (.builtin "__main__.__loader__#opaque"),en P "__spec__" 169 .none,en P "__annotations__" 170 (.ref 6),en P "__builtins__" 171 (.ref 4),en P "__file__" 173 (.str "/claim/cut.py" 172),en P "__cached__" 174 .none,en P "TrueError" 206 (.ref 24),en P "NoPays" 222 (.ref 37),en P "NoHouse" 238 (.ref 49),en P "NoMenu" 254 (.ref 61),en P "MOST_WORDS" 258 (.int (8) 257),en P "is_whole" 265 (.ref 70),en P "is_bounded" 272 (.ref 77),en P "is_grid_row" 278 (.ref 82),en P "turn" 287 (.ref 89),en P "gain" 297 (.ref 96),en P "first_gain" 308 (.ref 103),en P "MOST_LETTERS" 312 (.int (8) 311),en P "MOST_OUTCOMES" 314 (.int (8) 313),en P "MOST_HANDS" 316 (.int (4) 315),en P "MOST_ROWS" 318 (.int (256) 317),en P "is_name" 324 (.ref 108),en P "are_names" 330 (.ref 113),en P "are_worths" 336 (.ref 118),en P "is_hand" 344 (.ref 125),en P "name_of" 351 (.ref 132),en P "names_of" 357 (.ref 137),en P "words_of_hand" 364 (.ref 144),en P "worths_of_hand" 371 (.ref 151),en P "worths_by" 379 (.ref 158),en P "count_of_rows" 388 (.ref 165),en P "makes_house" 394 (.ref 170),en P "kept_hand" 400 (.ref 175),en P "house_of" 406 (.ref 180),en P "outcomes_of" 413 (.ref 187),en P "hands_of" 420 (.ref 194)] 39),#[]⟩
def o17(P:Params):Obj:=⟨(.type "dict"),none,(.dict #[en P "__module__" 196 (.str "trueword.errors" 187),en P "__qualname__" 198 (.str "TrueError" 197),en P "__firstlineno__" 200 (.int (2) 199),en P "__static_attributes__" 201 (.ref 22)] 4),#[]⟩
def o20:Obj:=(co "TrueError" 191 2 0 0 18 false 19 .none .none .none .none 194)
def o23(P:Params):Obj:=⟨(.type "dict"),none,(.dict #[en P "__module__" 196 (.str "trueword.errors" 187),en P "__firstlineno__" 200 (.int (2) 199),en P "__static_attributes__" 201 (.ref 22),en P "__weakref__" 203 (.ref 25),en P "__doc__" 204 .none] 3),#[]⟩
def o24:Obj:=⟨(.type "type"),none,(.cls ⟨"TrueError", [(.type "ValueError")],[(.ref 24),(.type "ValueError"),(.type "Exception"),(.type "BaseException"),(.type "object")],23, "TrueError", true,[],[(.ref 37),(.ref 49),(.ref 61)],false,none,false⟩),#[(some (.ref 15)),none,(some (.str "TrueError" 189)),(some (.str "TrueError" 197)),(some (.builtin "ValueError.__new__")),(some (.bool true))]⟩
def o30(P:Params):Obj:=⟨(.type "dict"),none,(.dict #[en P "__module__" 214 (.str "trueword.errors" 187),en P "__qualname__" 216 (.str "NoPays" 215),en P "__firstlineno__" 218 (.int (4) 217),en P "__static_attributes__" 219 (.ref 35)] 4),#[]⟩
def o33:Obj:=(co "NoPays" 209 4 0 0 31 false 32 .none .none .none .none 212)
def o36(P:Params):Obj:=⟨(.type "dict"),none,(.dict #[en P "__module__" 214 (.str "trueword.errors" 187),en P "__firstlineno__" 218 (.int (4) 217),en P "__static_attributes__" 219 (.ref 35),en P "__doc__" 220 .none] 2),#[]⟩
def o37:Obj:=⟨(.type "type"),none,(.cls ⟨"NoPays", [(.ref 24)],[(.ref 37),(.ref 24),(.type "ValueError"),(.type "Exception"),(.type "BaseException"),(.type "object")],36, "NoPays", true,[],[],false,none,false⟩),#[(some (.ref 28)),none,(some (.str "NoPays" 207)),(some (.str "NoPays" 215)),(some (.builtin "ValueError.__new__")),(some (.bool true))]⟩
def o42(P:Params):Obj:=⟨(.type "dict"),none,(.dict #[en P "__module__" 230 (.str "trueword.errors" 187),en P "__qualname__" 232 (.str "NoHouse" 231),en P "__firstlineno__" 234 (.int (6) 233),en P "__static_attributes__" 235 (.ref 47)] 4),#[]⟩
def o45:Obj:=(co "NoHouse" 225 6 0 0 43 false 44 .none .none .none .none 228)
def o48(P:Params):Obj:=⟨(.type "dict"),none,(.dict #[en P "__module__" 230 (.str "trueword.errors" 187),en P "__firstlineno__" 234 (.int (6) 233),en P "__static_attributes__" 235 (.ref 47),en P "__doc__" 236 .none] 2),#[]⟩
def o49:Obj:=⟨(.type "type"),none,(.cls ⟨"NoHouse", [(.ref 24)],[(.ref 49),(.ref 24),(.type "ValueError"),(.type "Exception"),(.type "BaseException"),(.type "object")],48, "NoHouse", true,[],[],false,none,false⟩),#[(some (.ref 40)),none,(some (.str "NoHouse" 223)),(some (.str "NoHouse" 231)),(some (.builtin "ValueError.__new__")),(some (.bool true))]⟩
def o54(P:Params):Obj:=⟨(.type "dict"),none,(.dict #[en P "__module__" 246 (.str "trueword.errors" 187),en P "__qualname__" 248 (.str "NoMenu" 247),en P "__firstlineno__" 250 (.int (8) 249),en P "__static_attributes__" 251 (.ref 59)] 4),#[]⟩
def o57:Obj:=(co "NoMenu" 241 8 0 0 55 false 56 .none .none .none .none 244)
def o60(P:Params):Obj:=⟨(.type "dict"),none,(.dict #[en P "__module__" 246 (.str "trueword.errors" 187),en P "__firstlineno__" 250 (.int (8) 249),en P "__static_attributes__" 251 (.ref 59),en P "__doc__" 252 .none] 2),#[]⟩
def o61:Obj:=⟨(.type "type"),none,(.cls ⟨"NoMenu", [(.ref 24)],[(.ref 61),(.ref 24),(.type "ValueError"),(.type "Exception"),(.type "BaseException"),(.type "object")],60, "NoMenu", true,[],[],false,none,false⟩),#[(some (.ref 52)),none,(some (.str "NoMenu" 239)),(some (.str "NoMenu" 247)),(some (.builtin "ValueError.__new__")),(some (.bool true))]⟩
def o69:Obj:=(co "is_whole" 259 12 1 3 64 true 65 .none (.ref 66) (.ref 67) (.ref 68) 263)
def o70:Obj:=(fo 7 "is_whole" "trueword.grids" 255 69)
def o76:Obj:=(co "is_bounded" 266 14 1 3 71 true 72 .none (.ref 73) (.ref 74) (.ref 75) 270)
def o77:Obj:=(fo 8 "is_bounded" "trueword.grids" 255 76)
def o81:Obj:=(co "is_grid_row" 273 16 2 3 78 true 79 .none .none .none (.ref 80) 276)
def o82:Obj:=(fo 9 "is_grid_row" "trueword.grids" 255 81)
def o88:Obj:=(co "turn" 279 20 3 3 83 true 84 .none (.ref 85) (.ref 86) (.ref 87) 285)
def o89:Obj:=(fo 10 "turn" "trueword.grids" 255 88)
def o95:Obj:=(co "gain" 288 22 4 3 90 true 91 .none (.ref 92) (.ref 93) (.ref 94) 295)
def o96:Obj:=(fo 11 "gain" "trueword.grids" 255 95)
def o102:Obj:=(co "first_gain" 298 24 2 3 97 true 98 .none (.ref 99) (.ref 100) (.ref 101) 306)
def o103:Obj:=(fo 12 "first_gain" "trueword.grids" 255 102)
def o107:Obj:=(co "is_name" 319 36 1 3 104 true 105 .none .none .none (.ref 106) 322)
def o108:Obj:=(fo 18 "is_name" "trueword.houses" 309 107)
def o112:Obj:=(co "are_names" 325 40 2 3 109 true 110 .none .none .none (.ref 111) 328)
def o113:Obj:=(fo 19 "are_names" "trueword.houses" 309 112)
def o117:Obj:=(co "are_worths" 331 44 3 3 114 true 115 .none .none .none (.ref 116) 334)
def o118:Obj:=(fo 20 "are_worths" "trueword.houses" 309 117)
def o124:Obj:=(co "is_hand" 337 48 2 3 119 true 120 .none (.ref 121) (.ref 122) (.ref 123) 342)
def o125:Obj:=(fo 21 "is_hand" "trueword.houses" 309 124)
def o131:Obj:=(co "name_of" 345 52 1 3 126 true 127 .none (.ref 128) (.ref 129) (.ref 130) 349)
def o132:Obj:=(fo 22 "name_of" "trueword.houses" 309 131)
def o136:Obj:=(co "names_of" 352 54 1 3 133 true 134 .none .none .none (.ref 135) 355)
def o137:Obj:=(fo 23 "names_of" "trueword.houses" 309 136)
def o143:Obj:=(co "words_of_hand" 358 56 1 3 138 true 139 .none (.ref 140) (.ref 141) (.ref 142) 362)
def o144:Obj:=(fo 24 "words_of_hand" "trueword.houses" 309 143)
def o150:Obj:=(co "worths_of_hand" 365 58 1 3 145 true 146 .none (.ref 147) (.ref 148) (.ref 149) 369)
def o151:Obj:=(fo 25 "worths_of_hand" "trueword.houses" 309 150)
def o157:Obj:=(co "worths_by" 372 60 2 3 152 true 153 .none (.ref 154) (.ref 155) (.ref 156) 377)
def o158:Obj:=(fo 26 "worths_by" "trueword.houses" 309 157)
def o164:Obj:=(co "count_of_rows" 380 62 1 3 159 true 160 .none (.ref 161) (.ref 162) (.ref 163) 386)
def o165:Obj:=(fo 27 "count_of_rows" "trueword.houses" 309 164)
def o169:Obj:=(co "makes_house" 389 67 2 3 166 true 167 .none .none .none (.ref 168) 392)
def o170:Obj:=(fo 28 "makes_house" "trueword.houses" 309 169)
def o174:Obj:=(co "kept_hand" 395 73 1 3 171 true 172 .none .none .none (.ref 173) 398)
def o175:Obj:=(fo 29 "kept_hand" "trueword.houses" 309 174)
def o179:Obj:=(co "house_of" 401 76 2 3 176 true 177 .none .none .none (.ref 178) 404)
def o180:Obj:=(fo 30 "house_of" "trueword.houses" 309 179)
def o186:Obj:=(co "outcomes_of" 407 80 1 3 181 true 182 .none (.ref 183) (.ref 184) (.ref 185) 411)
def o187:Obj:=(fo 31 "outcomes_of" "trueword.houses" 309 186)
def o193:Obj:=(co "hands_of" 414 82 1 3 188 true 189 .none (.ref 190) (.ref 191) (.ref 192) 418)
def o194:Obj:=(fo 32 "hands_of" "trueword.houses" 309 193)
def t1(P:Params):BT:=ia (((t0 P).set 3 fun _=>o3 P).set 12 fun _=>⟨.none,none,(.fields #[(.int (2) 0),(.int (0) 0),(.ref 20),(.int (4) 0),(.int (0) 0),(.ref 33),(.int (6) 0),(.int (0) 0),(.ref 45),(.int (8) 0),(.int (0) 0),(.ref 57),(.int (12) 0),(.int (0) 0),(.ref 69),(.int (14) 0),(.int (0) 0),(.ref 76),(.int (16) 0),(.int (0) 0),(.ref 81),(.int (20) 0),(.int (0) 0),(.ref 88),(.int (22) 0),(.int (0) 0),(.ref 95),(.int (24) 0),(.int (0) 0),(.ref 102),(.int (36) 0),(.int (0) 0),(.ref 107),(.int (40) 0),(.int (0) 0),(.ref 112),(.int (44) 0),(.int (0) 0),(.ref 117),(.int (48) 0),(.int (0) 0),(.ref 124),(.int (52) 0),(.int (0) 0),(.ref 131),(.int (54) 0),(.int (0) 0),(.ref 136),(.int (56) 0),(.int (0) 0),(.ref 143),(.int (58) 0),(.int (0) 0),(.ref 150),(.int (60) 0),(.int (0) 0),(.ref 157),(.int (62) 0),(.int (0) 0),(.ref 164),(.int (67) 0),(.int (0) 0),(.ref 169),(.int (73) 0),(.int (0) 0),(.ref 174),(.int (76) 0),(.int (0) 0),(.ref 179),(.int (80) 0),(.int (0) 0),(.ref 186),(.int (82) 0),(.int (0) 0),(.ref 193)]),#[]⟩) 15 [⟨(.type "tuple"),none,(.seq #[(.type "ValueError")] 0),#[]⟩,⟨(.type "builtin_function_or_method"),none,(.fields #[(.builtin "type.__prepare__"),(.type "type")]),#[]⟩,o17 P,oE,oF,o20,⟨(.type "frame"),none,.plain,#[(some (.ref 20)),(some (.ref 3)),(some (.ref 17)),none,(some (.str "trueword.errors" 187)),none,(some (.ref 0))]⟩,oE,o23 P,o24,⟨(.type "getset_descriptor"),none,(.fields #[(.str "__weakref__" 202),(.ref 24),(.builtin "ExceptionGroup.__weakref__"),.none]),#[]⟩,⟨(.type "super"),none,(.fields #[(.ref 24),(.ref 24),(.ref 24)]),#[]⟩,⟨(.type "builtin_function_or_method"),none,(.fields #[(.builtin "object.__init_subclass__"),(.ref 24)]),#[]⟩,⟨(.type "tuple"),none,(.seq #[(.ref 24)] 0),#[]⟩,⟨(.type "builtin_function_or_method"),none,(.fields #[(.builtin "type.__prepare__"),(.type "type")]),#[]⟩,o30 P,oE,oF,o33,⟨(.type "frame"),none,.plain,#[(some (.ref 33)),(some (.ref 3)),(some (.ref 30)),none,(some (.str "trueword.errors" 187)),none,(some (.ref 0))]⟩,oE,o36 P,o37,⟨(.type "super"),none,(.fields #[(.ref 37),(.ref 37),(.ref 37)]),#[]⟩,⟨(.type "builtin_function_or_method"),none,(.fields #[(.builtin "object.__init_subclass__"),(.ref 37)]),#[]⟩,⟨(.type "tuple"),none,(.seq #[(.ref 24)] 0),#[]⟩,⟨(.type "builtin_function_or_method"),none,(.fields #[(.builtin "type.__prepare__"),(.type "type")]),#[]⟩,o42 P,oE,oF,o45,⟨(.type "frame"),none,.plain,#[(some (.ref 45)),(some (.ref 3)),(some (.ref 42)),none,(some (.str "trueword.errors" 187)),none,(some (.ref 0))]⟩,oE,o48 P,o49,⟨(.type "super"),none,(.fields #[(.ref 49),(.ref 49),(.ref 49)]),#[]⟩,⟨(.type "builtin_function_or_method"),none,(.fields #[(.builtin "object.__init_subclass__"),(.ref 49)]),#[]⟩,⟨(.type "tuple"),none,(.seq #[(.ref 24)] 0),#[]⟩,⟨(.type "builtin_function_or_method"),none,(.fields #[(.builtin "type.__prepare__"),(.type "type")]),#[]⟩,o54 P,oE,oF,o57,⟨(.type "frame"),none,.plain,#[(some (.ref 57)),(some (.ref 3)),(some (.ref 54)),none,(some (.str "trueword.errors" 187)),none,(some (.ref 0))]⟩,oE,o60 P,o61,⟨(.type "super"),none,(.fields #[(.ref 61),(.ref 61),(.ref 61)]),#[]⟩,⟨(.type "builtin_function_or_method"),none,(.fields #[(.builtin "object.__init_subclass__"),(.ref 61)]),#[]⟩,oE,oF,(ts 262 ["thing"]),oE,(xo 7 "is_whole"),o69,o70,oE,oF,(ts 269 ["thing"]),oE,(xo 8 "is_bounded"),o76,o77,oE,oF,(xo 9 "is_grid_row"),o81,o82,oE,oF,(ts 282 ["grid", "s", "t"]),oE,(xo 10 "turn"),o88,o89,oE,oF,(ts 291 ["grid", "pays", "t", "s"]),oE,(xo 11 "gain"),o95,o96,oE,oF,(ts 301 ["grid", "pays", "t", "s", "more"]),oE,(xo 12 "first_gain"),o102,o103,oE,oF,(xo 18 "is_name"),o107,o108,oE,oF,(xo 19 "are_names"),o112,o113,oE,oF,(xo 20 "are_worths"),o117,o118,oE,oF,(ts 340 ["thing", "width"]),oE,(xo 21 "is_hand"),o124,o125,oE,oF,(ts 348 ["hand"]),oE,(xo 22 "name_of"),o131,o132,oE,oF,(xo 23 "names_of"),o136,o137,oE,oF,(ts 361 ["hand"]),oE,(xo 24 "words_of_hand"),o143,o144,oE,oF,(ts 368 ["hand"]),oE,(xo 25 "worths_of_hand"),o150,o151,oE,oF,(ts 375 ["hand", "word"]),oE,(xo 26 "worths_by"),o157,o158,oE,oF,(ts 383 ["hands", "count", "hand"]),oE,(xo 27 "count_of_rows"),o164,o165,oE,oF,(xo 28 "makes_house"),o169,o170,oE,oF,(xo 29 "kept_hand"),o174,o175,oE,oF,(xo 30 "house_of"),o179,o180,oE,oF,(ts 410 ["house"]),oE,(xo 31 "outcomes_of"),o186,o187,oE,oF,(ts 417 ["house"]),oE,(xo 32 "hands_of"),o193,o194]
def o3_1(P:Params):Obj:=⟨(.type "dict"),none,(.dict #[en P "__name__" 165 (.str "law_trueword_k49_whole_payable_by_menus" 665),en P "__doc__" 166 .none,en P "__package__" 167 .none,en P "__loader__" 168 (.builtin "__main__.__loader__#opaque"),en P "__spec__" 169 .none,en P "__annotations__" 170 (.ref 6),en P "__builtins__" 171 (.ref 4),en P "__file__" 173 (.str "/claim/cut.py" 172),en P "__cached__" 174 .none,en P "TrueError" 206 (.ref 24),en P "NoPays" 222 (.ref 37),en P "NoHouse" 238 (.ref 49),en P "NoMenu" 254 (.ref 61),en P "MOST_WORDS" 258 (.int (8) 257),en P "is_whole" 265 (.ref 70),en P "is_bounded" 272 (.ref 77),en P "is_grid_row" 278 (.ref 82),en P "turn" 287 (.ref 89),en P "gain" 297 (.ref 96),en P "first_gain" 308 (.ref 103),en P "MOST_LETTERS" 312 (.int (8) 311),en P "MOST_OUTCOMES" 314 (.int (8) 313),en P "MOST_HANDS" 316 (.int (4) 315),en P "MOST_ROWS" 318 (.int (256) 317),en P "is_name" 324 (.ref 108),en P "are_names" 330 (.ref 113),en P "are_worths" 336 (.ref 118),en P "is_hand" 344 (.ref 125),en P "name_of" 351 (.ref 132),en P "names_of" 357 (.ref 137),en P "words_of_hand" 364 (.ref 144),en P "worths_of_hand" 371 (.ref 151),en P "worths_by" 379 (.ref 158),en P "count_of_rows" 388 (.ref 165),en P "makes_house" 394 (.ref 170),en P "kept_hand" 400 (.ref 175),en P "house_of" 406 (.ref 180),en P "outcomes_of" 413 (.ref 187),en P "hands_of" 420 (.ref 194),en P "with_each" 426 (.ref 199),en P "rows_over" 435 (.ref 206),en P "rows_of" 442 (.ref 213),en P "without" 450 (.ref 220),en P "others_of" 458 (.ref 227),en P "row_with" 467 (.ref 234),en P "total_of" 476 (.ref 241),en P "words_of" 483 (.ref 248),en P "walks_of_one_turn" 489 (.ref 253),en P "least_to" 495 (.ref 258),en P "lengthened" 501 (.ref 263),en P "after_a_turn" 507 (.ref 268),en P "has_honest" 513 (.ref 273),en P "closed_below_zero" 522 (.ref 280),en P "ring" 528 (.ref 285),en P "refuse_ring" 537 (.ref 292),en P "lesser" 545 (.ref 299),en P "least_roads" 551 (.ref 304),en P "greatest" 559 (.ref 309),en P "is_outcome" 569 (.ref 316),en P "dealt_places" 575 (.ref 321),en P "worths_at" 581 (.ref 326),en P "grid_of" 587 (.ref 331),en P "left_of" 596 (.ref 338),en P "outcome_of" 603 (.ref 345),en P "pick" 609 (.ref 350),en P "menu_of" 615 (.ref 355),en P "is_menu" 621 (.ref 360),en P "are_menus" 627 (.ref 365),en P "menus_table" 633 (.ref 370),en P "grids_of" 641 (.ref 375),en P "paper" 651 (.ref 382),en P "verdict" 664 (.ref 389),en P "_law_cell_at" 674 (.ref 396),en P "_law_pool" 680 (.ref 401),en P "_law_drawn" 691 (.ref 408),en P "_law_worth" 698 (.ref 415),en P "_law_parts" 704 (.ref 420),en P "_law_rows" 710 (.ref 425),en P "_law_score" 723 (.ref 432),en P "_law_places" 729 (.ref 437),en P "_law_table" 739 (.ref 444),en P "_law_refused" 750 (.ref 451),en P "_law_gain" 760 (.ref 458),en P "_law_as_good" 777 (.ref 465),en P "law" 793 (.ref 472)] 85),#[]⟩
def o198:Obj:=(co "with_each" 421 84 2 3 195 true 196 .none .none .none (.ref 197) 424)
def o199:Obj:=(fo 33 "with_each" "trueword.houses" 309 198)
def o205:Obj:=(co "rows_over" 427 89 1 3 200 true 201 .none (.ref 202) (.ref 203) (.ref 204) 433)
def o206:Obj:=(fo 34 "rows_over" "trueword.houses" 309 205)
def o212:Obj:=(co "rows_of" 436 94 1 3 207 true 208 .none (.ref 209) (.ref 210) (.ref 211) 440)
def o213:Obj:=(fo 35 "rows_of" "trueword.houses" 309 212)
def o219:Obj:=(co "without" 443 96 2 3 214 true 215 .none (.ref 216) (.ref 217) (.ref 218) 448)
def o220:Obj:=(fo 36 "without" "trueword.houses" 309 219)
def o226:Obj:=(co "others_of" 451 98 2 3 221 true 222 .none (.ref 223) (.ref 224) (.ref 225) 456)
def o227:Obj:=(fo 37 "others_of" "trueword.houses" 309 226)
def o233:Obj:=(co "row_with" 459 100 3 3 228 true 229 .none (.ref 230) (.ref 231) (.ref 232) 465)
def o234:Obj:=(fo 38 "row_with" "trueword.houses" 309 233)
def o240:Obj:=(co "total_of" 470 103 1 3 235 true 236 .none (.ref 237) (.ref 238) (.ref 239) 474)
def o241:Obj:=(fo 40 "total_of" "trueword.rings" 468 240)
def o247:Obj:=(co "words_of" 477 105 1 3 242 true 243 .none (.ref 244) (.ref 245) (.ref 246) 481)
def o248:Obj:=(fo 41 "words_of" "trueword.rings" 468 247)
def o252:Obj:=(co "walks_of_one_turn" 484 107 2 3 249 true 250 .none .none .none (.ref 251) 487)
def o253:Obj:=(fo 42 "walks_of_one_turn" "trueword.rings" 468 252)
def o257:Obj:=(co "least_to" 490 109 3 3 254 true 255 .none .none .none (.ref 256) 493)
def o258:Obj:=(fo 43 "least_to" "trueword.rings" 468 257)
def o262:Obj:=(co "lengthened" 496 112 2 3 259 true 260 .none .none .none (.ref 261) 499)
def o263:Obj:=(fo 44 "lengthened" "trueword.rings" 468 262)
def o267:Obj:=(co "after_a_turn" 502 114 3 3 264 true 265 .none .none .none (.ref 266) 505)
def o268:Obj:=(fo 45 "after_a_turn" "trueword.rings" 468 267)
def o272:Obj:=(co "has_honest" 508 116 1 3 269 true 270 .none .none .none (.ref 271) 511)
def o273:Obj:=(fo 46 "has_honest" "trueword.rings" 468 272)
def o279:Obj:=(co "closed_below_zero" 514 121 1 3 274 true 275 .none (.ref 276) (.ref 277) (.ref 278) 520)
def o280:Obj:=(fo 47 "closed_below_zero" "trueword.rings" 468 279)
def o284:Obj:=(co "ring" 523 126 1 3 281 true 282 .none .none .none (.ref 283) 526)
def o285:Obj:=(fo 48 "ring" "trueword.rings" 468 284)
def o291:Obj:=(co "refuse_ring" 531 137 1 3 286 true 287 .none (.ref 288) (.ref 289) (.ref 290) 535)
def o292:Obj:=(fo 50 "refuse_ring" "trueword.roads" 529 291)
def o298:Obj:=(co "lesser" 538 140 2 3 293 true 294 .none (.ref 295) (.ref 296) (.ref 297) 543)
def o299:Obj:=(fo 51 "lesser" "trueword.roads" 529 298)
def o303:Obj:=(co "least_roads" 546 142 2 3 300 true 301 .none .none .none (.ref 302) 549)
def o304:Obj:=(fo 52 "least_roads" "trueword.roads" 529 303)
def o308:Obj:=(co "greatest" 554 147 1 3 305 true 306 .none .none .none (.ref 307) 557)
def o309:Obj:=(fo 54 "greatest" "trueword.pays" 552 308)
def o315:Obj:=(co "is_outcome" 562 152 2 3 310 true 311 .none (.ref 312) (.ref 313) (.ref 314) 567)
def o316:Obj:=(fo 56 "is_outcome" "trueword.tables" 560 315)
def o320:Obj:=(co "dealt_places" 570 154 4 3 317 true 318 .none .none .none (.ref 319) 573)
def o321:Obj:=(fo 57 "dealt_places" "trueword.tables" 560 320)
def o325:Obj:=(co "worths_at" 576 157 2 3 322 true 323 .none .none .none (.ref 324) 579)
def o326:Obj:=(fo 58 "worths_at" "trueword.tables" 560 325)
def o330:Obj:=(co "grid_of" 582 159 4 3 327 true 328 .none .none .none (.ref 329) 585)
def o331:Obj:=(fo 59 "grid_of" "trueword.tables" 560 330)
def o337:Obj:=(co "left_of" 590 163 1 3 332 true 333 .none (.ref 334) (.ref 335) (.ref 336) 594)
def o338:Obj:=(fo 61 "left_of" "trueword.menus" 588 337)
def o344:Obj:=(co "outcome_of" 597 165 1 3 339 true 340 .none (.ref 341) (.ref 342) (.ref 343) 601)
def o345:Obj:=(fo 62 "outcome_of" "trueword.menus" 588 344)
def o349:Obj:=(co "pick" 604 167 4 3 346 true 347 .none .none .none (.ref 348) 607)
def o350:Obj:=(fo 63 "pick" "trueword.menus" 588 349)
def o354:Obj:=(co "menu_of" 610 171 4 3 351 true 352 .none .none .none (.ref 353) 613)
def o355:Obj:=(fo 64 "menu_of" "trueword.menus" 588 354)
def o359:Obj:=(co "is_menu" 616 175 2 3 356 true 357 .none .none .none (.ref 358) 619)
def o360:Obj:=(fo 65 "is_menu" "trueword.menus" 588 359)
def o364:Obj:=(co "are_menus" 622 179 3 3 361 true 362 .none .none .none (.ref 363) 625)
def o365:Obj:=(fo 66 "are_menus" "trueword.menus" 588 364)
def o369:Obj:=(co "menus_table" 628 184 3 3 366 true 367 .none .none .none (.ref 368) 631)
def o370:Obj:=(fo 67 "menus_table" "trueword.menus" 588 369)
def o374:Obj:=(co "grids_of" 636 189 2 3 371 true 372 .none .none .none (.ref 373) 639)
def o375:Obj:=(fo 69 "grids_of" "trueword.verdicts" 634 374)
def o381:Obj:=(co "paper" 642 194 3 3 376 true 377 .none (.ref 378) (.ref 379) (.ref 380) 649)
def o382:Obj:=(fo 70 "paper" "trueword.verdicts" 634 381)
def o388:Obj:=(co "verdict" 652 197 2 3 383 true 384 .none (.ref 385) (.ref 386) (.ref 387) 662)
def o389:Obj:=(fo 71 "verdict" "trueword.verdicts" 634 388)
def o395:Obj:=(co "_law_cell_at" 667 206 2 3 390 true 391 .none (.ref 392) (.ref 393) (.ref 394) 672)
def o396:Obj:=(fo 73 "_law_cell_at" "law_trueword_k49_whole_payable_by_menus" 665 395)
def o400:Obj:=(co "_law_pool" 675 210 2 3 397 true 398 .none .none .none (.ref 399) 678)
def o401:Obj:=(fo 74 "_law_pool" "law_trueword_k49_whole_payable_by_menus" 665 400)
def o407:Obj:=(co "_law_drawn" 681 223 2 3 402 true 403 .none (.ref 404) (.ref 405) (.ref 406) 689)
def o408:Obj:=(fo 75 "_law_drawn" "law_trueword_k49_whole_payable_by_menus" 665 407)
def o414:Obj:=(co "_law_worth" 692 230 1 3 409 true 410 .none (.ref 411) (.ref 412) (.ref 413) 696)
def o415:Obj:=(fo 76 "_law_worth" "law_trueword_k49_whole_payable_by_menus" 665 414)
def o419:Obj:=(co "_law_parts" 699 238 2 3 416 true 417 .none .none .none (.ref 418) 702)
def o420:Obj:=(fo 77 "_law_parts" "law_trueword_k49_whole_payable_by_menus" 665 419)
def o424:Obj:=(co "_law_rows" 705 253 1 3 421 true 422 .none .none .none (.ref 423) 708)
def o425:Obj:=(fo 78 "_law_rows" "law_trueword_k49_whole_payable_by_menus" 665 424)
def o431:Obj:=(co "_law_score" 711 261 4 3 426 true 427 .none (.ref 428) (.ref 429) (.ref 430) 721)
def o432:Obj:=(fo 79 "_law_score" "law_trueword_k49_whole_payable_by_menus" 665 431)
def o436:Obj:=(co "_law_places" 724 267 3 3 433 true 434 .none .none .none (.ref 435) 727)
def o437:Obj:=(fo 80 "_law_places" "law_trueword_k49_whole_payable_by_menus" 665 436)
def o443:Obj:=(co "_law_table" 730 287 2 3 438 true 439 .none (.ref 440) (.ref 441) (.ref 442) 737)
def o444:Obj:=(fo 81 "_law_table" "law_trueword_k49_whole_payable_by_menus" 665 443)
def o450:Obj:=(co "_law_refused" 740 292 4 3 445 true 446 .none (.ref 447) (.ref 448) (.ref 449) 748)
def o451:Obj:=(fo 82 "_law_refused" "law_trueword_k49_whole_payable_by_menus" 665 450)
def o457:Obj:=(co "_law_gain" 751 299 4 3 452 true 453 .none (.ref 454) (.ref 455) (.ref 456) 758)
def o458:Obj:=(fo 83 "_law_gain" "law_trueword_k49_whole_payable_by_menus" 665 457)
def o464:Obj:=(co "_law_as_good" 761 301 6 3 459 true 460 .none (.ref 461) (.ref 462) (.ref 463) 775)
def o465:Obj:=(fo 84 "_law_as_good" "law_trueword_k49_whole_payable_by_menus" 665 464)
def o471:Obj:=(co "law" 778 312 1 3 466 true 467 .none (.ref 468) (.ref 469) (.ref 470) 791)
def o472:Obj:=(fo 85 "law" "law_trueword_k49_whole_payable_by_menus" 665 471)
def t2(P:Params):BT:=ia (((t1 P).set 3 fun _=>o3_1 P).set 12 fun _=>⟨.none,none,(.fields #[(.int (2) 0),(.int (0) 0),(.ref 20),(.int (4) 0),(.int (0) 0),(.ref 33),(.int (6) 0),(.int (0) 0),(.ref 45),(.int (8) 0),(.int (0) 0),(.ref 57),(.int (12) 0),(.int (0) 0),(.ref 69),(.int (14) 0),(.int (0) 0),(.ref 76),(.int (16) 0),(.int (0) 0),(.ref 81),(.int (20) 0),(.int (0) 0),(.ref 88),(.int (22) 0),(.int (0) 0),(.ref 95),(.int (24) 0),(.int (0) 0),(.ref 102),(.int (36) 0),(.int (0) 0),(.ref 107),(.int (40) 0),(.int (0) 0),(.ref 112),(.int (44) 0),(.int (0) 0),(.ref 117),(.int (48) 0),(.int (0) 0),(.ref 124),(.int (52) 0),(.int (0) 0),(.ref 131),(.int (54) 0),(.int (0) 0),(.ref 136),(.int (56) 0),(.int (0) 0),(.ref 143),(.int (58) 0),(.int (0) 0),(.ref 150),(.int (60) 0),(.int (0) 0),(.ref 157),(.int (62) 0),(.int (0) 0),(.ref 164),(.int (67) 0),(.int (0) 0),(.ref 169),(.int (73) 0),(.int (0) 0),(.ref 174),(.int (76) 0),(.int (0) 0),(.ref 179),(.int (80) 0),(.int (0) 0),(.ref 186),(.int (82) 0),(.int (0) 0),(.ref 193),(.int (84) 0),(.int (0) 0),(.ref 198),(.int (89) 0),(.int (0) 0),(.ref 205),(.int (94) 0),(.int (0) 0),(.ref 212),(.int (96) 0),(.int (0) 0),(.ref 219),(.int (98) 0),(.int (0) 0),(.ref 226),(.int (100) 0),(.int (0) 0),(.ref 233),(.int (103) 0),(.int (0) 0),(.ref 240),(.int (105) 0),(.int (0) 0),(.ref 247),(.int (107) 0),(.int (0) 0),(.ref 252),(.int (109) 0),(.int (0) 0),(.ref 257),(.int (112) 0),(.int (0) 0),(.ref 262),(.int (114) 0),(.int (0) 0),(.ref 267),(.int (116) 0),(.int (0) 0),(.ref 272),(.int (121) 0),(.int (0) 0),(.ref 279),(.int (126) 0),(.int (0) 0),(.ref 284),(.int (137) 0),(.int (0) 0),(.ref 291),(.int (140) 0),(.int (0) 0),(.ref 298),(.int (142) 0),(.int (0) 0),(.ref 303),(.int (147) 0),(.int (0) 0),(.ref 308),(.int (152) 0),(.int (0) 0),(.ref 315),(.int (154) 0),(.int (0) 0),(.ref 320),(.int (157) 0),(.int (0) 0),(.ref 325),(.int (159) 0),(.int (0) 0),(.ref 330),(.int (163) 0),(.int (0) 0),(.ref 337),(.int (165) 0),(.int (0) 0),(.ref 344),(.int (167) 0),(.int (0) 0),(.ref 349),(.int (171) 0),(.int (0) 0),(.ref 354),(.int (175) 0),(.int (0) 0),(.ref 359),(.int (179) 0),(.int (0) 0),(.ref 364),(.int (184) 0),(.int (0) 0),(.ref 369),(.int (189) 0),(.int (0) 0),(.ref 374),(.int (194) 0),(.int (0) 0),(.ref 381),(.int (197) 0),(.int (0) 0),(.ref 388),(.int (206) 0),(.int (0) 0),(.ref 395),(.int (210) 0),(.int (0) 0),(.ref 400),(.int (223) 0),(.int (0) 0),(.ref 407),(.int (230) 0),(.int (0) 0),(.ref 414),(.int (238) 0),(.int (0) 0),(.ref 419),(.int (253) 0),(.int (0) 0),(.ref 424),(.int (261) 0),(.int (0) 0),(.ref 431),(.int (267) 0),(.int (0) 0),(.ref 436),(.int (287) 0),(.int (0) 0),(.ref 443),(.int (292) 0),(.int (0) 0),(.ref 450),(.int (299) 0),(.int (0) 0),(.ref 457),(.int (301) 0),(.int (0) 0),(.ref 464),(.int (312) 0),(.int (0) 0),(.ref 471)]),#[]⟩) 195 [oE,oF,(xo 33 "with_each"),o198,o199,oE,oF,(ts 430 ["hands", "rows", "hand"]),oE,(xo 34 "rows_over"),o205,o206,oE,oF,(ts 439 ["house"]),oE,(xo 35 "rows_of"),o212,o213,oE,oF,(ts 446 ["things", "k"]),oE,(xo 36 "without"),o219,o220,oE,oF,(ts 454 ["house", "k"]),oE,(xo 37 "others_of"),o226,o227,oE,oF,(ts 462 ["others", "k", "word"]),oE,(xo 38 "row_with"),o233,o234,oE,oF,(ts 473 ["walk"]),oE,(xo 40 "total_of"),o240,o241,oE,oF,(ts 480 ["walk"]),oE,(xo 41 "words_of"),o247,o248,oE,oF,(xo 42 "walks_of_one_turn"),o252,o253,oE,oF,(xo 43 "least_to"),o257,o258,oE,oF,(xo 44 "lengthened"),o262,o263,oE,oF,(xo 45 "after_a_turn"),o267,o268,oE,oF,(xo 46 "has_honest"),o272,o273,oE,oF,(ts 517 ["rows", "s", "walks"]),oE,(xo 47 "closed_below_zero"),o279,o280,oE,oF,(xo 48 "ring"),o284,o285,oE,oF,(ts 534 ["grid"]),oE,(xo 50 "refuse_ring"),o291,o292,oE,oF,(ts 541 ["walk", "longer"]),oE,(xo 51 "lesser"),o298,o299,oE,oF,(xo 52 "least_roads"),o303,o304,oE,oF,(xo 54 "greatest"),o308,o309,oE,oF,(ts 565 ["house", "thing"]),oE,(xo 56 "is_outcome"),o315,o316,oE,oF,(xo 57 "dealt_places"),o320,o321,oE,oF,(xo 58 "worths_at"),o325,o326,oE,oF,(xo 59 "grid_of"),o330,o331,oE,oF,(ts 593 ["offer"]),oE,(xo 61 "left_of"),o337,o338,oE,oF,(ts 600 ["offer"]),oE,(xo 62 "outcome_of"),o344,o345,oE,oF,(xo 63 "pick"),o349,o350,oE,oF,(xo 64 "menu_of"),o354,o355,oE,oF,(xo 65 "is_menu"),o359,o360,oE,oF,(xo 66 "are_menus"),o364,o365,oE,oF,(xo 67 "menus_table"),o369,o370,oE,oF,(xo 69 "grids_of"),o374,o375,oE,oF,(ts 645 ["k", "others", "grid", "told"]),oE,(xo 70 "paper"),o381,o382,oE,oF,(ts 655 ["house", "table", "papers", "k", "others", "grid", "found"]),oE,(xo 71 "verdict"),o388,o389,oE,oF,(ts 670 ["script", "k"]),oE,(xo 73 "_law_cell_at"),o395,o396,oE,oF,(xo 74 "_law_pool"),o400,o401,oE,oF,(ts 684 ["script", "k", "many", "cell", "number"]),oE,(xo 75 "_law_drawn"),o407,o408,oE,oF,(ts 695 ["cell"]),oE,(xo 76 "_law_worth"),o414,o415,oE,oF,(xo 77 "_law_parts"),o419,o420,oE,oF,(xo 78 "_law_rows"),o424,o425,oE,oF,(ts 714 ["hands", "row", "weights", "place", "score", "j", "t"]),oE,(xo 79 "_law_score"),o431,o432,oE,oF,(xo 80 "_law_places"),o436,o437,oE,oF,(ts 733 ["outcomes", "places", "table", "row"]),oE,(xo 81 "_law_table"),o443,o444,oE,oF,(ts 743 ["house", "table", "k", "others", "refused"]),oE,(xo 82 "_law_refused"),o450,o451,oE,oF,(ts 754 ["outcomes", "worths", "menu", "outcome"]),oE,(xo 83 "_law_gain"),o457,o458,oE,oF,(ts 764 ["outcomes", "hand", "k", "table", "other", "menus", "row", "menu", "worths", "gain_v", "outcome"]),oE,(xo 84 "_law_as_good"),o464,o465,oE,oF,(ts 781 ["script", "outcomes", "hands", "house", "table", "found", "k", "menus", "others", "other"]),oE,(xo 85 "law"),o471,o472]
def hf(P:Params):Heap:=absHeap (t2 P) 473 (lf P)
def s0(w:World)(os:OsState):SharedT:=⟨t0 w.params,15,lf w.params,Array.mk [],boot_drawn,187,os⟩
def s1(w:World)(os:OsState):SharedT:=⟨t1 w.params,195,lf w.params,Array.mk [],boot_drawn,421,os⟩
def s2(w:World)(os:OsState):SharedT:=⟨t2 w.params,473,lf w.params,Array.mk [],boot_drawn,794,os⟩
def l0:List Stmt:=(pr.main.body.drop 0).take 33
def l1:List Stmt:=(pr.main.body.drop 33).take 53
theorem bs:behindTheImports pr=l0++(l1++([])):=by kernel_rfl
theorem r_pre(w:World)(os:OsState):topGo treeTable pr w 11 (some (.ref 6)) 12 ⟨boot_heap w.params,Array.mk [],boot_drawn,boot_toks,os⟩ (topStub pr)=some (⟨ha w.params,Array.mk [],boot_drawn,187,os⟩,⟨denote treeTable cd,cd,⟨0,0,0,0⟩,[topFrame qp]⟩):=by kernel_rfl
theorem zlz(w:World)(os:OsState):segRun treeTable pr w 11 (some (.ref 6)) 1 1 ⟨ha w.params,Array.mk [],boot_drawn,187,os⟩ (blockOf (behindTheImports pr) env cd ⟨0,0,0,0⟩ [topFrame qp])=some (.next,(s0 w os).abs,cd,⟨0,0,0,0⟩):=by kernel_rfl
theorem r0(w:World)(os:OsState):segRunT treeTable pr w 11 (some (.ref 6)) 1 1496 (s0 w os) (piecesOf l0 env cd ⟨0,0,0,0⟩ [topFrame qp])=some (.next,s1 w os,cd,⟨82,0,83,19⟩):=by
  rw[PySem.W.Fast.te10110043849684766642,PySem.W.Fast.te14364793385576792824];kernel_rfl
theorem r1(w:World)(os:OsState):segRunT treeTable pr w 11 (some (.ref 6)) 1 1391 (s1 w os) (piecesOf l1 env cd ⟨82,0,83,19⟩ [topFrame qp])=some (.next,s2 w os,cd,⟨312,0,328,15⟩):=by
  rw[PySem.W.Fast.te10110043849684766642,PySem.W.Fast.te14364793385576792824];kernel_rfl
theorem r_fin(w:World)(os:OsState):topRun treeTable pr w 11 (some (.ref 6)) 2 (s2 w os).abs ⟨doneF .next,cd,⟨312,0,328,15⟩,[topFrame qp]⟩=some ⟨hf w.params,Array.mk [],boot_drawn,794,os⟩:=by kernel_rfl
theorem r_rest(w:World)(os:OsState):topRun treeTable pr w 11 (some (.ref 6)) (1496+(1391+(2))) (s0 w os).abs (restOf (behindTheImports pr) env cd ⟨0,0,0,0⟩ [topFrame qp])=some ⟨hf w.params,Array.mk [],boot_drawn,794,os⟩:=by
  have k:=piece_app (segRun_of (r0 w os)) (piece_app (segRun_of (r1 w os)) (piece_nil (r_fin w os)));exact(congrArg (fun b=>topRun treeTable pr w 11 (some (.ref 6)) (1496+(1391+(2))) (s0 w os).abs (restOf b env cd ⟨0,0,0,0⟩ [topFrame qp])) bs).trans k
theorem r_all(w:World)(os:OsState):topRun treeTable pr w 11 (some (.ref 6)) (12+(1+(1496+(1391+(2))))) ⟨boot_heap w.params,Array.mk [],boot_drawn,boot_toks,os⟩ (topStub pr)=some ⟨hf w.params,Array.mk [],boot_drawn,794,os⟩:=go_top (r_pre w os) (piece_block (zlz w os) (r_rest w os))
def ks:List Addr:=[3,13,17,20,23,24,30,33,36,37,42,45,48,49,54,57,60,61,69,70,76,77,81,82,88,89,95,96,102,103,107,108,112,113,117,118,124,125,131,132,136,137,143,144,150,151,157,158,164,165,169,170,174,175,179,180,186,187,193,194,198,199,205,206,212,213,219,220,226,227,233,234,240,241,247,248,252,253,257,258,262,263,267,268,272,273,279,280,284,285,291,292,298,299,303,304,308,309,315,316,320,321,325,326,330,331,337,338,344,345,349,350,354,355,359,360,364,365,369,370,374,375,381,382,388,389,395,396,400,401,407,408,414,415,419,420,424,425,431,432,436,437,443,444,450,451,457,458,464,465,471,472]
def K:Params->Frag:=fun P=>(nat_lit 3,o3_1 P)::(nat_lit 13,o13)::(nat_lit 17,o17 P)::(nat_lit 20,o20)::(nat_lit 23,o23 P)::(nat_lit 24,o24)::(nat_lit 30,o30 P)::(nat_lit 33,o33)::(nat_lit 36,o36 P)::(nat_lit 37,o37)::(nat_lit 42,o42 P)::(nat_lit 45,o45)::(nat_lit 48,o48 P)::(nat_lit 49,o49)::(nat_lit 54,o54 P)::(nat_lit 57,o57)::(nat_lit 60,o60 P)::(nat_lit 61,o61)::(nat_lit 69,o69)::(nat_lit 70,o70)::(nat_lit 76,o76)::(nat_lit 77,o77)::(nat_lit 81,o81)::(nat_lit 82,o82)::(nat_lit 88,o88)::(nat_lit 89,o89)::(nat_lit 95,o95)::(nat_lit 96,o96)::(nat_lit 102,o102)::(nat_lit 103,o103)::(nat_lit 107,o107)::(nat_lit 108,o108)::(nat_lit 112,o112)::(nat_lit 113,o113)::(nat_lit 117,o117)::(nat_lit 118,o118)::(nat_lit 124,o124)::(nat_lit 125,o125)::(nat_lit 131,o131)::(nat_lit 132,o132)::(nat_lit 136,o136)::(nat_lit 137,o137)::(nat_lit 143,o143)::(nat_lit 144,o144)::(nat_lit 150,o150)::(nat_lit 151,o151)::(nat_lit 157,o157)::(nat_lit 158,o158)::(nat_lit 164,o164)::(nat_lit 165,o165)::(nat_lit 169,o169)::(nat_lit 170,o170)::(nat_lit 174,o174)::(nat_lit 175,o175)::(nat_lit 179,o179)::(nat_lit 180,o180)::(nat_lit 186,o186)::(nat_lit 187,o187)::(nat_lit 193,o193)::(nat_lit 194,o194)::(nat_lit 198,o198)::(nat_lit 199,o199)::(nat_lit 205,o205)::(nat_lit 206,o206)::(nat_lit 212,o212)::(nat_lit 213,o213)::(nat_lit 219,o219)::(nat_lit 220,o220)::(nat_lit 226,o226)::(nat_lit 227,o227)::(nat_lit 233,o233)::(nat_lit 234,o234)::(nat_lit 240,o240)::(nat_lit 241,o241)::(nat_lit 247,o247)::(nat_lit 248,o248)::(nat_lit 252,o252)::(nat_lit 253,o253)::(nat_lit 257,o257)::(nat_lit 258,o258)::(nat_lit 262,o262)::(nat_lit 263,o263)::(nat_lit 267,o267)::(nat_lit 268,o268)::(nat_lit 272,o272)::(nat_lit 273,o273)::(nat_lit 279,o279)::(nat_lit 280,o280)::(nat_lit 284,o284)::(nat_lit 285,o285)::(nat_lit 291,o291)::(nat_lit 292,o292)::(nat_lit 298,o298)::(nat_lit 299,o299)::(nat_lit 303,o303)::(nat_lit 304,o304)::(nat_lit 308,o308)::(nat_lit 309,o309)::(nat_lit 315,o315)::(nat_lit 316,o316)::(nat_lit 320,o320)::(nat_lit 321,o321)::(nat_lit 325,o325)::(nat_lit 326,o326)::(nat_lit 330,o330)::(nat_lit 331,o331)::(nat_lit 337,o337)::(nat_lit 338,o338)::(nat_lit 344,o344)::(nat_lit 345,o345)::(nat_lit 349,o349)::(nat_lit 350,o350)::(nat_lit 354,o354)::(nat_lit 355,o355)::(nat_lit 359,o359)::(nat_lit 360,o360)::(nat_lit 364,o364)::(nat_lit 365,o365)::(nat_lit 369,o369)::(nat_lit 370,o370)::(nat_lit 374,o374)::(nat_lit 375,o375)::(nat_lit 381,o381)::(nat_lit 382,o382)::(nat_lit 388,o388)::(nat_lit 389,o389)::(nat_lit 395,o395)::(nat_lit 396,o396)::(nat_lit 400,o400)::(nat_lit 401,o401)::(nat_lit 407,o407)::(nat_lit 408,o408)::(nat_lit 414,o414)::(nat_lit 415,o415)::(nat_lit 419,o419)::(nat_lit 420,o420)::(nat_lit 424,o424)::(nat_lit 425,o425)::(nat_lit 431,o431)::(nat_lit 432,o432)::(nat_lit 436,o436)::(nat_lit 437,o437)::(nat_lit 443,o443)::(nat_lit 444,o444)::(nat_lit 450,o450)::(nat_lit 451,o451)::(nat_lit 457,o457)::(nat_lit 458,o458)::(nat_lit 464,o464)::(nat_lit 465,o465)::(nat_lit 471,o471)::(nat_lit 472,o472)::[]
theorem ke(P:Params):ks=(K P).map (·.1):=by kernel_rfl
def lo:List Str:=pr.main.scope.names.map (·.1)
def vw:Program:={ pr with main:={ pr.main with body:=[Mine.dn] } }
def fs(w:World)(os:OsState):Shared:=⟨hf w.params,Array.mk [],boot_drawn,794,os⟩
theorem z_size(w:World):((boot_heap w.params).isNs mainGlobals&&(Array.mk []:Array GenState).size==0,(boot_heap w.params).objs.size,(boot_heap w.params).nsMap mainGlobals "__annotations__")=(true,11,(some (.ref 6))):=by kernel_rfl
theorem z_one(w:World)(os:OsState):(staticsOk (importedModules pr.main.body) (boot_heap w.params) (hf w.params)&&namesBound pr (hf w.params)&&gensDone (fs w os)&&laidKept (boot_heap w.params) (hf w.params))=true:=by kernel_rfl
theorem z_two(w:World)(os:OsState):openSeen vw lo (importedModules pr.main.body) (fun _=>true) true (fs w os)=openGood vw lo:=by
  rw[PySem.W.Fast.te4187177175401517315];kernel_rfl
theorem zlk(w:World)(os:OsState):(kHook K ks ke).obs (fs w os)=(kHook K ks ke).val w:=by kernel_rfl
theorem z_open:opening pr=plainProg pr.main.scope.names:=by kernel_rfl
theorem zmc(s:Shared):fenceModules? pr s=some s:=by kernel_rfl
theorem left:LeftO pr vw lo (fun _=>true) (kHook K ks ke).obs (kHook K ks ke).val 1000000 :=
  LeftO.of_pieces (boot_open z_open rfl zmc) z_size r_all rfl fun w=>funext fun os=>looks_pair (z_one w os) (looks_pair (z_two w os) (zlk w os))
end
end Tp
open PySem PySem.W PyProof.Rows
set_option maxRecDepth 100000 in
set_option maxHeartbeats 0 in
theorem PySem.Challenge.cw_trueword_k49_whole_payable_by_menus_holds : PySem.Challenge.rw_trueword_k49_whole_payable_by_menus.Holds := by
  refine holds_law (by rw[PySem.W.Fast.te9446332074065402090];kernel_rfl) fun said => ?_
  refine holds_open (q:=Tp.vw) (loose:=Tp.lo) (Xt:=fun _=>true) (XP:=fun _ _=>True) (Yf:=(kHook Tp.K Tp.ks Tp.ke).obs) (Ya:=(kHook Tp.K Tp.ks Tp.ke).val) (YP:=(kHook Tp.K Tp.ks Tp.ke).says) (N:=1000000) Tp.left (kHook Tp.K Tp.ks Tp.ke).of (kHook Tp.K Tp.ks Tp.ke).keeps (fun _ _=>trivial) (fun _ _ _ _ _=>trivial) (by rfl) (by rfl) (by rfl) (fun _ _=>recFacts_nil rfl) (by rfl) said (by decide +kernel) ⟨rfl,rfl,rfl,rfl,rfl,by decide +kernel⟩ ?hw ?hc
  case hw=>w_witness2
  k_fill
  refine L2.zkb (l:=PySem.Challenge.rw_trueword_k49_whole_payable_by_menus) (n:=63) (k:=10) (x := "script") (CX:=L2.CX0) (sp:=Mine.zgy) rfl (by decide) rfl ⟨rfl,by decide,by decide⟩ (fun w h Y=>PySem.W.kIn_of Y) ?F ?S ?C
  case F =>
    intro w mg fa h KX G hmg
    have N:mg "abs" = none/\mg "all" = none/\mg "bool" = none/\mg "dict" = none/\mg "enumerate" = none/\mg "int" = none/\mg "isinstance" = none/\mg "len" = none/\mg "list" = none/\mg "max" = none/\mg "min" = none/\mg "range" = none/\mg "set" = none/\mg "str" = none/\mg "tuple" = none/\mg "zip" = none/\True:=by
      refine⟨?_,?_,?_,?_,?_,?_,?_,?_,?_,?_,?_,?_,?_,?_,?_,?_,trivial⟩ <;> (refine' PySem.W.mg_none_of KX G ?a;(case a=>k_is))
    obtain⟨n_abs,n_all,n_bool,n_dict,n_enumerate,n_int,n_isinstance,n_len,n_list,n_max,n_min,n_range,n_set,n_str,n_tuple,n_zip,-⟩:=N;have k0_MOST_WORDS:=PySem.W.mg_of (n := "MOST_WORDS") KX G (by k_is);have k_MOST_WORDS:∃t,mg "MOST_WORDS" = some (Value.int 8 t):=⟨_,k0_MOST_WORDS⟩;have k0_MOST_LETTERS:=PySem.W.mg_of (n := "MOST_LETTERS") KX G (by k_is);have k_MOST_LETTERS:∃t,mg "MOST_LETTERS" = some (Value.int 8 t):=⟨_,k0_MOST_LETTERS⟩;have k0_MOST_OUTCOMES:=PySem.W.mg_of (n := "MOST_OUTCOMES") KX G (by k_is);have k_MOST_OUTCOMES:∃t,mg "MOST_OUTCOMES" = some (Value.int 8 t):=⟨_,k0_MOST_OUTCOMES⟩;have k0_MOST_HANDS:=PySem.W.mg_of (n := "MOST_HANDS") KX G (by k_is);have k_MOST_HANDS:∃t,mg "MOST_HANDS" = some (Value.int 4 t):=⟨_,k0_MOST_HANDS⟩;have k0_MOST_ROWS:=PySem.W.mg_of (n := "MOST_ROWS") KX G (by k_is);have k_MOST_ROWS:∃t,mg "MOST_ROWS" = some (Value.int 256 t):=⟨_,k0_MOST_ROWS⟩;have B:Mine.Bt mg:=⟨n_abs,n_all,n_bool,n_dict,n_enumerate,n_int,n_isinstance,n_len,n_list,n_max,n_min,n_range,n_set,n_str,n_tuple,n_zip,k_MOST_WORDS,k_MOST_LETTERS,k_MOST_OUTCOMES,k_MOST_HANDS,k_MOST_ROWS⟩;have z_NoHouse:=L2.zcv (name := "NoHouse") KX G (by k_is) (by k_exc) (by k_is) (by k_is) (by k_is);have z_NoPays:=L2.zcv (name := "NoPays") KX G (by k_is) (by k_exc) (by k_is) (by k_is) (by k_is);have z_NoMenu:=L2.zcv (name := "NoMenu") KX G (by k_is) (by k_exc) (by k_is) (by k_is) (by k_is);have C:=Mine.Ct.mk (mg:=mg) (a:=⟨_,_,_⟩) (z_NoHouse.1) (z_NoHouse.2) (z_NoPays.1) (z_NoPays.2) (L2.zlj (by k_is)) (z_NoMenu.1) (z_NoMenu.2) (by k_is) (L2.zk3)
    have D:L2.zc (L2.KOf KX) mg "is_whole" Mine.mr ["thing"]/\L2.zc (L2.KOf KX) mg "is_bounded" Mine.qe ["thing"]/\L2.zc (L2.KOf KX) mg "is_grid_row" Mine.ra ["thing", "width"]/\L2.zc (L2.KOf KX) mg "turn" Mine.ay ["grid", "s", "t"]/\L2.zc (L2.KOf KX) mg "gain" Mine.zah ["grid", "pays", "t", "s"]/\L2.zc (L2.KOf KX) mg "first_gain" Mine.r6 ["grid", "pays"]/\L2.zc (L2.KOf KX) mg "is_name" Mine.ju ["thing"]/\L2.zc (L2.KOf KX) mg "are_names" Mine.pj ["thing", "most"]/\L2.zc (L2.KOf KX) mg "are_worths" Mine.qm ["thing", "height", "width"]/\L2.zc (L2.KOf KX) mg "is_hand" Mine.jk ["thing", "width"]/\L2.zc (L2.KOf KX) mg "name_of" Mine.ja ["hand"]/\L2.zc (L2.KOf KX) mg "names_of" Mine.m5 ["hands"]/\L2.zc (L2.KOf KX) mg "words_of_hand" Mine.vx ["hand"]/\L2.zc (L2.KOf KX) mg "worths_of_hand" Mine.vn ["hand"]/\L2.zc (L2.KOf KX) mg "worths_by" Mine.oi ["hand", "word"]/\L2.zc (L2.KOf KX) mg "count_of_rows" Mine.u3 ["hands"]/\L2.zc (L2.KOf KX) mg "makes_house" Mine.su ["outcomes", "hands"]/\L2.zc (L2.KOf KX) mg "kept_hand" Mine.pi ["hand"]/\L2.zc (L2.KOf KX) mg "house_of" Mine.ml ["outcomes", "hands"]/\L2.zc (L2.KOf KX) mg "outcomes_of" Mine.rb ["house"]/\L2.zc (L2.KOf KX) mg "hands_of" Mine.my ["house"]/\L2.zc (L2.KOf KX) mg "with_each" Mine.px ["rows", "words"]/\L2.zc (L2.KOf KX) mg "rows_over" Mine.pw ["hands"]/\L2.zc (L2.KOf KX) mg "rows_of" Mine.ji ["house"]/\L2.zc (L2.KOf KX) mg "without" Mine.jf ["things", "k"]/\L2.zc (L2.KOf KX) mg "others_of" Mine.oh ["house", "k"]/\L2.zc (L2.KOf KX) mg "row_with" Mine.mz ["others", "k", "word"]/\L2.zc (L2.KOf KX) mg "total_of" Mine.mj ["walk"]/\L2.zc (L2.KOf KX) mg "words_of" Mine.mm ["walk"]/\L2.zc (L2.KOf KX) mg "walks_of_one_turn" Mine.vq ["grid", "s"]/\L2.zc (L2.KOf KX) mg "least_to" Mine.qi ["grid", "walks", "t"]/\L2.zc (L2.KOf KX) mg "lengthened" Mine.u9 ["grid", "walks"]/\L2.zc (L2.KOf KX) mg "after_a_turn" Mine.tu ["grid", "totals", "t"]/\L2.zc (L2.KOf KX) mg "has_honest" Mine.qf ["grid"]/\L2.zc (L2.KOf KX) mg "closed_below_zero" Mine.vt ["rows"]/\L2.zc (L2.KOf KX) mg "ring" Mine.ar ["grid"]/\L2.zc (L2.KOf KX) mg "refuse_ring" Mine.sy ["grid"]/\L2.zc (L2.KOf KX) mg "lesser" Mine.ge ["walk", "longer"]/\L2.zc (L2.KOf KX) mg "least_roads" Mine.sw ["grid", "walks"]/\L2.zc (L2.KOf KX) mg "greatest" Mine.m6 ["grid"]/\L2.zc (L2.KOf KX) mg "is_outcome" Mine.qt ["house", "thing"]/\L2.zc (L2.KOf KX) mg "dealt_places" Mine.tq ["house", "table", "k", "others"]/\L2.zc (L2.KOf KX) mg "worths_at" Mine.ph ["worths", "places"]/\L2.zc (L2.KOf KX) mg "grid_of" Mine.jq ["house", "table", "k", "others"]/\L2.zc (L2.KOf KX) mg "left_of" Mine.jr ["offer"]/\L2.zc (L2.KOf KX) mg "outcome_of" Mine.qj ["offer"]/\L2.zc (L2.KOf KX) mg "pick" Mine.ac ["house", "k", "menu", "word"]/\L2.zc (L2.KOf KX) mg "menu_of" Mine.js ["house", "table", "k", "others"]/\L2.zc (L2.KOf KX) mg "is_menu" Mine.jh ["house", "thing"]/\L2.zc (L2.KOf KX) mg "are_menus" Mine.oa ["house", "k", "thing"]/\L2.zc (L2.KOf KX) mg "menus_table" Mine.sm ["house", "k", "menus"]/\L2.zc (L2.KOf KX) mg "grids_of" Mine.mx ["house", "table"]/\L2.zc (L2.KOf KX) mg "paper" Mine.e7 ["k", "others", "grid"]/\L2.zc (L2.KOf KX) mg "verdict" Mine.jo ["house", "table"]/\L2.zc (L2.KOf KX) mg "_law_cell_at" Mine.sr ["script", "k"]/\L2.zc (L2.KOf KX) mg "_law_pool" Mine.ya ["cell", "many"]/\L2.zc (L2.KOf KX) mg "_law_drawn" Mine.om ["script", "k"]/\L2.zc (L2.KOf KX) mg "_law_worth" Mine.pp ["cell"]/\L2.zc (L2.KOf KX) mg "_law_parts" Mine.p8 ["script", "tops"]/\L2.zc (L2.KOf KX) mg "_law_rows" Mine.mq ["hands"]/\L2.zc (L2.KOf KX) mg "_law_score" Mine.oj ["hands", "row", "weights", "place"]/\L2.zc (L2.KOf KX) mg "_law_places" Mine.qc ["script", "outcomes", "hands"]/\L2.zc (L2.KOf KX) mg "_law_table" Mine.p9 ["outcomes", "places"]/\L2.zc (L2.KOf KX) mg "_law_refused" Mine.sv ["house", "table", "k", "others"]/\L2.zc (L2.KOf KX) mg "_law_gain" Mine.m4 ["outcomes", "worths", "menu", "outcome"]/\L2.zc (L2.KOf KX) mg "_law_as_good" Mine.so ["outcomes", "hand", "k", "table", "other", "menus"]/\L2.zc (L2.KOf KX) mg "law" Mine.dn ["script"]/\True:=by
      refine⟨?_,?_,?_,?_,?_,?_,?_,?_,?_,?_,?_,?_,?_,?_,?_,?_,?_,?_,?_,?_,?_,?_,?_,?_,?_,?_,?_,?_,?_,?_,?_,?_,?_,?_,?_,?_,?_,?_,?_,?_,?_,?_,?_,?_,?_,?_,?_,?_,?_,?_,?_,?_,?_,?_,?_,?_,?_,?_,?_,?_,?_,?_,?_,?_,?_,?_,?_,trivial⟩ <;> (dsimp only[L2.KOf];refine' L2.def_mk KX G ?a ?l ?c ?k ?h;(case a=>k_is);(case l=>k_is);(case c=>k_is);(case k=>k_is);(case h=>first | exact(fun _ _ _ _ _ _ us hl=>match us,hl with | [_],_=>rfl) | exact(fun _ _ _ _ _ _ us hl=>match us,hl with | [_,_],_=>rfl) | exact(fun _ _ _ _ _ _ us hl=>match us,hl with | [_,_,_],_=>rfl) | exact(fun _ _ _ _ _ _ us hl=>match us,hl with | [_,_,_,_],_=>rfl) | exact(fun _ _ _ _ _ _ us hl=>match us,hl with | [_,_,_,_,_,_],_=>rfl)))
    obtain⟨d_is_whole,d_is_bounded,d_is_grid_row,d_turn,d_gain,d_first_gain,d_is_name,d_are_names,d_are_worths,d_is_hand,d_name_of,d_names_of,d_words_of_hand,d_worths_of_hand,d_worths_by,d_count_of_rows,d_makes_house,d_kept_hand,d_house_of,d_outcomes_of,d_hands_of,d_with_each,d_rows_over,d_rows_of,d_without,d_others_of,d_row_with,d_total_of,d_words_of,d_walks_of_one_turn,d_least_to,d_lengthened,d_after_a_turn,d_has_honest,d_closed_below_zero,d_ring,d_refuse_ring,d_lesser,d_least_roads,d_greatest,d_is_outcome,d_dealt_places,d_worths_at,d_grid_of,d_left_of,d_outcome_of,d_pick,d_menu_of,d_is_menu,d_are_menus,d_menus_table,d_grids_of,d_paper,d_verdict,d_law_cell_at,d_law_pool,d_law_drawn,d_law_worth,d_law_parts,d_law_rows,d_law_score,d_law_places,d_law_table,d_law_refused,d_law_gain,d_law_as_good,d_law,-⟩:=D;obtain⟨f,fd,e1,F1,b1⟩:=d_law.ex;have e2:=hmg.symm.trans e1;cases e2;refine⟨fd,fun s u => ?_,fun base kb nb => ?_⟩
    . exact Mine.zih F1 s u
    . exact Mine.law_ok B C d_is_whole d_is_bounded d_is_grid_row d_turn d_gain d_first_gain d_is_name d_are_names d_are_worths d_is_hand d_name_of d_names_of d_words_of_hand d_worths_of_hand d_worths_by d_count_of_rows d_makes_house d_kept_hand d_house_of d_outcomes_of d_hands_of d_with_each d_rows_over d_rows_of d_without d_others_of d_row_with d_total_of d_words_of d_walks_of_one_turn d_least_to d_lengthened d_after_a_turn d_has_honest d_closed_below_zero d_ring d_refuse_ring d_lesser d_least_roads d_greatest d_is_outcome d_dealt_places d_worths_at d_grid_of d_left_of d_outcome_of d_pick d_menu_of d_is_menu d_are_menus d_menus_table d_grids_of d_paper d_verdict d_law_cell_at d_law_pool d_law_drawn d_law_worth d_law_parts d_law_rows d_law_score d_law_places d_law_table d_law_refused d_law_gain d_law_as_good base F1
  case S=>exact fun K H a ns hl hO hS=>⟨a,ns,rfl,hS,hl,fun _=>rfl⟩
  case C=>exact fun _ _ _ _ z=>z
#print axioms PySem.Challenge.cw_trueword_k49_whole_payable_by_menus_holds

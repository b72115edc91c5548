import PyProof.Rows.All
import Wide.All
import OpenK.AllK
import Wide.FinOn
import Lean
import PyProof.EqAt
import PyProof.EqKinds
import PyProof.TupleCall
import PySem.Sem
import PyProof.P3Statements
import PyProof.SliceList
import PyProof.Dict
import PyProof.TupleKey
import PyProof.P3In
import PyProof.NeData
import KE.KRevIter
import PyProof.CollectIter
import PyProof.TupleOfGen
import PyProof.DictRoadsH
import PyProof.P3Eq
import PyProof.FactsAll.NoneType_1
import PyProof.FString2
import KE.KDictOf
import PyProof.DictDisplay
import PyProof.ListRange
import PyProof.MinMaxWalk
import PyProof.WalkInts
import PyProof.DictItems
import PyProof.Draws
import PyProof.EnumMake
import PyProof.Rows.TupIter
import KE.KPairComp
import PyProof.Rows.SetFrom
import PyProof.Rows.SortWalk
import KE.KSortedM
import PyProof.IsRules
import PyProof.ListMulRoad
import PyProof.AutoSeq1
import PyProof.FactsAll.tuple_2
import KE.KTryMore
import OpenK.KOwn
import PyProof.NsDelKeeps
import PyProof.ExcAttrAll.ValueError
import PySem.Challenge.RW_losspact_k32_rows_between
def K9:=@List.mem_cons_of_mem
def K8:=@List.mem_cons_self
def K7:=@List.mem_singleton
def K6:=@PySem.Heap.get?_push_of_some
def K5:=@List.getElem?_eq_getElem
def K4:=@List.length_map
def K3:=@Bool.false_ne_true
def K2:=@List.mem_cons
def K1:=@List.mem_append_right
def K0:=@Int.toNat_natCast
def Kk:=@List.mem_append
def Kx:=@List.length_append
def Ku:=@Nat.le_refl
def Ky:=@List.mem_map
def Kj:=@List.getElem?_map
def Kz:=@PySem.Heap.get?_push_size
def Kw:=@List.size_toArray
def Kv:=@List.length_cons
def Kq:=@Nat.le_trans
def KU:=@PySem.Heap.lt_size
def KY:=@List.mem_append_left
def KJ:=@List.nodup_cons
def KZ:=@List.map_cons
def KW:=@List.getD_eq_getElem?_getD
def KQ:=@Bool.and_eq_true
def X9:=@List.length_range
def X8:=@List.length_singleton
def X7:=@List.map_map
def X6:=@List.map_append
def X5:=@List.getElem?_eq_some_iff
def X4:=@Nat.lt_of_lt_of_le
def X3:=@List.nodup_nil
def X2:=@List.mem_range
def X1:=@Nat.ne_of_lt
def X0:=@Nat.lt_of_le_of_lt
def Xk:=@PySem.Heap.get?_update_self
def Xx:=@List.append_nil
def Xu:=@Nat.zero_le
def Xy:=@List.getElem_mem
def Xj:=@List.append_assoc
def Xz:=@List.getElem?_eq_none
def Xw:=@PySem.Heap.size_push
def Xv:=@Bool.and_self
def Xq:=@List.length_filter_le
def XX:=@List.nodup_append
def XU:=@List.getElem?_set_self
def XY:=@List.getElem?_set_ne
def XJ:=@Nat.lt_irrefl
def XZ:=@List.length_reverse
def XW:=@List.find?_cons
def XQ:=@List.getElem?_append_left
def U9:=@List.mem_filter
def U8:=@List.cons_append
def U7:=@List.length_set
def U6:=@List.replicate_succ
def U5:=@List.map_congr_left
def U4:=@List.getElem?_range
def U3:=@Bool.false_eq_true
def U2:=@Nat.lt_succ_self
def U1:=@List.mem_flatMap
def U0:=@Option.map_some
def Uk:=@List.length_take
def Ux:=@Int.emod_lt_of_pos
def Uu:=@Nat.le_succ
def Uy:=@Nat.lt_succ_of_lt
def Uj:=@List.length_nil
def Uz:=@Bool.eq_iff_iff
def Uw:=@List.mem_reverse
def Uv:=@List.all_eq_true
def Uq:=@List.getElem?_append_right
def UK:=@Int.emod_nonneg
def UX:=@Nat.succ_mul
def UU:=@Nat.ne_of_gt
def UY:=@List.take_add_one
def UJ:=@List.flatten_cons
def UZ:=@Bool.true_and
def UW:=@List.take_length
def UQ:=@List.filter_cons
def Y9:=@Bool.false_and
def Y8:=@List.range_succ
def Y7:=@List.foldl_cons
def Y6:=@List.lookup_cons
def Y5:=@List.mem_map_of_mem
def Y4:=@List.nil_append
def Y3:=@List.reverse_cons
def Y2:=@PySem.Heap.get?_update_other
def Y1:=@List.any_cons
def Y0:=@List.mem_of_getElem?
def Yk:=@Nat.mul_comm
def Yx:=@List.map_nil
def Yu:=@Nat.mul_le_mul
def Yy:=@List.drop_eq_getElem_cons
def Yj:=@List.length_eq_zero_iff
def Yz:=@List.getElem_map
def Yw:=@List.getElem?_cons_succ
def Yv:=@List.ext_getElem
def Yq:=@Int.eq_ofNat_of_zero_le
def YK:=@Nat.le_of_lt
def YX:=@Nat.le_antisymm
def YU:=@List.forIn_cons
def YY:=@List.filter_nil
def YJ:=@Array.getElem?_toList
set_option linter.all false
section
open PySem PySem.Spec PyProof PyProof.Rows
def YZ:=@wpS_bind
def YW:=@wpS_pure
def YV:=@wpS_get
def YQ:=@beq_iff_eq
def J9:=@decide_eq_true_eq
def J8:=@wpAny_bind
def J7:=@wpAny_pure
def J6:=@if_neg
def J5:=@if_pos
def J4:=@decide_eq_true
def J3:=@decide_eq_false
def J2:=@wpAny_holding
def J1:=@wpAny_call_entry
def J0:=@wpAny_newObj_type
def Jk:=@wpAny_specialOf
abbrev Jx:=Value->Shared->Prop
abbrev Ju:=PyData
end
set_option maxHeartbeats 0
open PySem.W (nsIn codeIn keepIn fnOf mg_of Frag OpenLaw)
set_option Elab.async false
set_option linter.all false
set_option maxRecDepth 100000
namespace L2
open PySem PySem.Spec PyProof.Rows
abbrev Key:=Sum Int Str
def Pj:Key->Value->Bool
 | .inl k,v=>Value.isInt k v
 | .inr x,v=>Value.isStrOf x v
def Uc (w:World):Key->Int
 | .inl k=>hashInt k
 | .inr x=>hashStr w x
theorem de:∀{k:Key} {v:Value},Pj k v=true->(∃i t,k=Sum.inl i/\v=Value.int i t)∨(∃x t,k=Sum.inr x/\v=Value.str x t)
 | .inl i,v,h=>by
  obtain⟨t,e⟩:=Value.isInt_shape (k:=i) (v:=v) h
  exact .inl ⟨i,t,rfl,e⟩
 | .inr x,v,h=>by
  obtain⟨t,e⟩:=Value.isStrOf_shape (x:=x) (v:=v) h
  exact .inr ⟨x,t,rfl,e⟩
theorem PX (a b:Int):decide ((Sum.inl a:Key)=Sum.inl b)=(a==b):=by
 by_cases e:a=b
 ·subst e;simp
 ·have h:¬ (Sum.inl a:Key)=Sum.inl b:=λq=>e (Sum.inl.inj q)
  rw[J3 h]
  exact(beq_eq_false_iff_ne.mpr e).symm
theorem PY (a b:Str):decide ((Sum.inr a:Key)=Sum.inr b)=decide (a=b):=by
 by_cases e:a=b
 ·subst e;simp
 ·have h:¬ (Sum.inr a:Key)=Sum.inr b:=λq=>e (Sum.inr.inj q)
  rw[J3 h,J3 e]
theorem PZ (a:Int)(b:Str):decide ((Sum.inl a:Key)=Sum.inr b)=false:=J3 (λq=>nomatch q)
theorem P0 (a:Str)(b:Int):decide ((Sum.inr a:Key)=Sum.inl b)=false:=J3 (λq=>nomatch q)
def GY (prog:Program)(w:World):PySem.KeyKind prog w Key where
 is:=Pj
 hash:=Uc w
 inj:=λv a b ha hb=>by
  rcases de ha with⟨i,t,rfl,rfl⟩ | ⟨x,t,rfl,rfl⟩
  ·rcases de hb with⟨j,u,rfl,e⟩ | ⟨y,u,rfl,e⟩
   ·injection e with e1 _;rw[e1]
   ·exact nomatch e
  ·rcases de hb with⟨j,u,rfl,e⟩ | ⟨y,u,rfl,e⟩
   ·exact nomatch e
   ·injection e with e1 _;rw[e1]
 byValue:=λk v h=>by
  rcases de h with⟨i,t,rfl,rfl⟩ | ⟨x,t,rfl,rfl⟩ <;> rfl
 pyHash:=λhv h=>by
  rcases de hv with⟨i,t,rfl,rfl⟩ | ⟨x,t,rfl,rfl⟩
  ·exact wpAny_pyHash_int h
  ·exact wpAny_pyHash_str h
 eqBool:=λhu hv h=>by
  rcases de hu with⟨i,t,rfl,rfl⟩ | ⟨x,t,rfl,rfl⟩
  ·rcases de hv with⟨j,u,rfl,rfl⟩ | ⟨y,u,rfl,rfl⟩
   ·rw[PX] at h;exact wpAny_eqBool_int h
   ·rw[PZ] at h;exact SeqAt.EqAt.int_str i t y u _ _ _ _ h
  ·rcases de hv with⟨j,u,rfl,rfl⟩ | ⟨y,u,rfl,rfl⟩
   ·rw[P0] at h;exact SeqAt.EqAt.str_int x t j u _ _ _ _ h
   ·rw[PY] at h;exact wpAny_eqBool_str h
 «strs»:=λk x t v h=>by
  rcases de h with⟨i,u,rfl,e⟩ | ⟨y,u,rfl,e⟩
  ·exact nomatch e
  ·injection e with e1 _
   subst e1
   cases v <;> rfl
inductive V where
 | non | bl (b:Bool) | int (i:Int) | str (x:Str) | Ud (b:Array UInt8) | flt (b:UInt64) | ref (a:Addr) | ty (n:String)
 deriving DecidableEq
def RelV:V->Value->Prop
 | .non,u=>u=Value.none
 | .bl b,u=>u=Value.bool b
 | .int i,u=>∃t,u=Value.int i t
 | .str x,u=>∃t,u=Value.str x t
 | .Ud b,u=>∃t,u=Value.bytes b t
 | .flt b,u=>∃t,u=Value.float b t
 | .ref a,u=>u=Value.ref a
 | .ty n,u=>u=Value.type n
abbrev Vals:List V->List Value->Prop:=Paired RelV
theorem Vals.length {xs:List V}{us:List Value}(r:Vals xs us):xs.length=us.length:=Paired.length r
theorem Vals.get:∀{xs:List V} {us:List Value} {i:Nat} {x:V},Vals xs us->xs[i]? =some x->∃u,us[i]? =some u/\RelV x u
 | _,_,_,_,.nil,e=>by simp at e
 | _,_,0,_,.cons r _,e=>by simp at e;subst e;exact⟨_,rfl,r⟩
 | _,_,i+1,x,.cons _ t,e=>by
  obtain⟨u,h1,h2⟩:=Vals.get (i:=i) (x:=x) t (by simpa using e)
  exact⟨u,by simpa using h1,h2⟩
theorem Vals.set {x:V}{u:Value}(r:RelV x u):∀{xs:List V} {us:List Value} (i:Nat),Vals xs us->Vals (xs.set i x) (us.set i u)
 | _,_,_,.nil=> .nil
 | _,_,0,.cons _ t=> .cons r t
 | _,_,i+1,.cons q t=> .cons q (Vals.set r i t)
theorem Vals.append:∀{xs ys:List V} {us ws:List Value},Vals xs us->Vals ys ws->Vals (xs++ys) (us++ws)
 | _,_,_,_,.nil,s=>s
 | _,_,_,_,.cons r t,s=> .cons r (Vals.append t s)
theorem Vals.take:∀{xs:List V} {us:List Value} (n:Nat),Vals xs us->Vals (xs.take n) (us.take n)
 | _,_,0,_=> .nil
 | _,_,_+1,.nil=> .nil
 | _,_,n+1,.cons r t=> .cons r (Vals.take n t)
theorem Vals.drop:∀{xs:List V} {us:List Value} (n:Nat),Vals xs us->Vals (xs.drop n) (us.drop n)
 | _,_,0,r=>r
 | _,_,_+1,.nil=> .nil
 | _,_,n+1,.cons _ t=>Vals.drop n t
def Sh:Option V->Option Value->Prop
 | some v,some u=>RelV v u
 | none,none=>True
 | _,_=>False
def KV {κ:Type}:List (κ×V)->List (κ×Value)->Prop:=Paired λ(p:κ×V) (q:κ×Value)=>p.1=q.1/\RelV p.2 q.2
def kV:Key->V
 | .inl i=> .int i
 | .inr x=> .str x
inductive HO where
  | lst (xs:List V)
  | tup (xs:List V)
  | dK (kvs:List (Key×V)) | dT (kvs:List (List Key×V))
  | set (S:Int->Bool) (n:Nat)
  | ins (C dx:Addr) (fs:List (Str×V))
  | own (x:Addr)
  | xd (fs:List (Str×V))
  | met (f x:Addr)
  | rng (lo hi:Int)
  | Kl (o:Obj) (u:HO)
  | Nr (ps:Array Value)
  | ext (φ:Heap->Prop)
abbrev Hp:=Addr->Option HO
def upd (H:Hp)(a:Addr)(o:HO):Hp:=λb=>if b=a then some o else H b
theorem aB {H:Hp}{a:Addr}{o:HO}:upd H a o a=some o:=by unfold upd;rw[J5 rfl]
theorem a9 {H:Hp}{a b:Addr}{o:HO}(h:b≠a):upd H a o b=H b:=by unfold upd;rw[J6 h]
theorem Pk {H:Hp}{a b:Addr}{o u:HO}(h:H a=some o)(h':H b=some u)(d:o≠u):a≠b:=by
 intro e;subst e;rw[h] at h';exact d (Option.some.inj h')
theorem fJ {H:Hp}{a b:Addr}{o:HO}(h:H a=some o)(h':H b=none):a≠b:=by
 intro e;subst e;rw[h] at h';cases h'
section
variable (P:Program)(w:World)
def gk (H:Hp)(h:Heap)(a:Addr):HO->Prop
 | .lst xs=>xs.length<=sizeLine/\∃(its:List Value) (n:Nat),Vals xs its/\h.get? a=some {cls:=.type "list",data:=.seq its.toArray n}
 | .tup xs=>xs.length<=sizeLine/\∃its:List Value,Vals xs its/\IsTup h a its.toArray
 | .dK kvs=>kvs.length<=sizeLine/\(a==sysModules)=false/\∃vs,KV kvs vs/\h.DictOf (GY P w) a vs
 | .dT kvs=>kvs.length<=sizeLine/\(a==sysModules)=false/\∃xs:List (List Key×Addr×Value),
   Paired (λ(p:List Key×V) (q:List Key×Addr×Value)=>p.1=q.1/\H q.2.1=some (.tup (p.1.map kV))/\RelV p.2 q.2.2) kvs xs/\
   ∃o es ep,h.get? a=some o/\o.ExactDict/\o.data= .dict es ep/\es.toList=xs.map (entryOfKey (tupleKind (GY P w)))/\(xs.map (·.1)).Nodup
 | .set S n=>h.SetOf (intKind P w) a S n
 | .ins C dx fs=>H dx=some (.own a)/\fs.length<=1000/\dx≠a/\h.get? a=some (PySem.W.instObj C dx)/\
   ∃mA,h.Ns1 dx mA/\(∀f,Sh (fs.lookup f) (mA f))/\PySem.Within mA (fs.map (·.1))
 | .own _=>∃o,h.get? a=some o
 | .xd fs=>∃mA,h.Ns1 a mA/\∀f,Sh (fs.lookup f) (mA f)
 | .rng lo hi=>∃t u v,h.get? a=some {cls:=.type "range",data:=.fields #[.int lo t,.int hi u,.int 1 v]}
 | .Kl o u=>h.get? a=some o/\gk H h a u
 | .Nr ps=>h.get? a=some {cls:=.none,data:=.fields ps}
 | .met f x=>h.get? a=some (PySem.W.methodObj (.ref f) (.ref x))
 | .ext φ=>φ h/\(∃o,h.get? a=some o)/\∀h1 h2:Heap,φ h1->(∀o,h1.get? a=some o->h2.get? a=some o)->φ h2
def ul (H:Hp)(h:Heap):Prop:=∀a o,H a=some o->gk P w H h a o
end
section
variable {P:Program}{w:World}{H H':Hp}{h h':Heap}{a:Addr}{o:HO}
theorem gk.lt (x:gk P w H h a o):a < h.objs.size:=by
 cases o with
 | lst xs=>obtain⟨_,_,_,_,e⟩:=x;exact KU e
 | tup xs=>obtain⟨_,_,_,p⟩:=x;exact p.lt
 | dK kvs=>obtain⟨_,_,_,_,o,_,_,e,_⟩:=x;exact KU e
 | dT kvs=>obtain⟨_,_,_,_,o,_,_,e,_⟩:=x;exact KU e
 | set S n=>obtain⟨o,_,_,_,e,_⟩:=x;exact KU e
 | ins C dx fs=>obtain⟨_,_,_,e,_⟩:=x;exact KU e
 | own y=>obtain⟨_,e⟩:=x;exact KU e
 | xd fs=>obtain⟨_,⟨_,_,_,e,_⟩,_⟩:=x;exact KU e
 | rng lo hi=>obtain⟨_,_,_,e⟩:=x;exact KU e
 | Kl ob u=>obtain⟨e,_⟩:=x;exact KU e
 | Nr ps=>exact KU (show h.get? a=some _ from x)
 | met f y=>exact KU (show h.get? a=some _ from x)
 | ext φ=>obtain⟨_,⟨_,e⟩,_⟩:=x;exact KU e
theorem Paired.Si {α β:Type}{F G:α->β->Prop}:∀{l₁:List α} {l₂:List β},Paired F l₁ l₂->(∀a b,F a b->G a b)->Paired G l₁ l₂
 | _,_,.nil,_=> .nil
 | _,_,.cons r t,f=> .cons (f _ _ r) (Paired.Si t f)
theorem gk.stay (x:gk P w H h a o)(k:∀b u,(b=a∨H b=some (.own a))->h.get? b=some u->h'.get? b=some u)
  (ho:∀b,H b=some (.own a)->H' b=some (.own a)) (ht:∀b xs,H b=some (.tup xs)->H' b=some (.tup xs)):gk P w H' h' a o:=by
 induction o with
 | lst xs=>obtain⟨z,its,n,r,e⟩:=x;exact⟨z,its,n,r,k _ _ (.inl rfl) e⟩
 | tup xs=>obtain⟨z,its,r,ob,e,c⟩:=x;exact⟨z,its,r,ob,k _ _ (.inl rfl) e,c⟩
 | dK kvs=>obtain⟨z,y,vs,r,ob,es,ep,e,c⟩:=x;exact⟨z,y,vs,r,ob,es,ep,k _ _ (.inl rfl) e,c⟩
 | dT kvs=>
  obtain⟨z,y,xs,r,ob,es,ep,e,c⟩:=x
  exact⟨z,y,xs,Paired.Si r λp q z=>⟨z.1,ht _ _ z.2.1,z.2.2⟩,ob,es,ep,k _ _ (.inl rfl) e,c⟩
 | set S n=>obtain⟨ob,es,ep,t,e,c⟩:=x;exact⟨ob,es,ep,t,k _ _ (.inl rfl) e,c⟩
 | ins C dx fs=>
  obtain⟨d,z,ne,e,mA,⟨od,es,ep,e2,c⟩,r⟩:=x
  exact⟨ho _ d,z,ne,k _ _ (.inl rfl) e,mA,⟨od,es,ep,k _ _ (.inr d) e2,c⟩,r⟩
 | own y=>obtain⟨ob,e⟩:=x;exact⟨ob,k _ _ (.inl rfl) e⟩
 | xd fs=>obtain⟨mA,⟨od,es,ep,e,c⟩,r⟩:=x;exact⟨mA,⟨od,es,ep,k _ _ (.inl rfl) e,c⟩,r⟩
 | rng lo hi=>obtain⟨t,u,v,e⟩:=x;exact⟨t,u,v,k _ _ (.inl rfl) e⟩
 | Kl ob u ih=>obtain⟨e,q⟩:=x;exact⟨k _ _ (.inl rfl) e,ih q⟩
 | Nr ps=>
  have e:h.get? a=some {cls:=.none,data:=.fields ps}:=x
  show h'.get? a=some {cls:=.none,data:=.fields ps}
  exact k a _ (.inl rfl) e
 | met f y=>
  have e:h.get? a=some (PySem.W.methodObj (.ref f) (.ref y)):=x
  show h'.get? a=some (PySem.W.methodObj (.ref f) (.ref y))
  exact k a _ (.inl rfl) e
 | ext φ=>obtain⟨p,⟨o,e⟩,st⟩:=x;exact⟨st _ _ p λo q=>k _ _ (.inl rfl) q,⟨o,k _ _ (.inl rfl) e⟩,st⟩
theorem ul.lt (x:ul P w H h)(e:H a=some o):a < h.objs.size:=(x a o e).lt
theorem ul.fresh (x:ul P w H h)(e:h.objs.size<=a):H a=none:=by
 cases q:H a with
 | none=>rfl
 | some u=>exact absurd (X4 (x.lt q) e) (XJ _)
theorem ul.kept (x:ul P w H h)(k:∀b u,h.get? b=some u->h'.get? b=some u):ul P w H h':=λa o e=>
 (x a o e).stay (λb u _ q=>k b u q) (λ_ q=>q) λ_ _ q=>q
theorem ul.laid (x:ul P w H h)(k:∀b u,h.get? b=some u->h'.get? b=some u)(hp:h.objs.size<=a)(new:gk P w (upd H a o) h' a o):ul P w (upd H a o) h':=λb u e=>by
 have hn:=x.fresh hp
 by_cases hb:b=a
 ·subst hb;rw[aB] at e;cases e;exact new
 ·rw[a9 hb] at e
  exact(x b u e).stay (λc v _ q=>k c v q) (λc q=>by rw[a9 (fJ q hn)];exact q) λc xs q=>by rw[a9 (fJ q hn)];exact q
end
def Rd (H:Hp)(a:Addr)(u:HO):Prop:=H a=some u∨∃o,H a=some (.Kl o u)
theorem Rd.of {H:Hp}{a:Addr}{u:HO}(h:H a=some u):Rd H a u:=.inl h
theorem Rd.ok {P:Program}{w:World}{H:Hp}{h:Heap}{a:Addr}{u:HO}(r:Rd H a u)(x:ul P w H h):gk P w H h a u:=by
 rcases r with r | ⟨o,r⟩
 ·exact x a u r
 ·obtain⟨_,q⟩:=x a _ r
  exact q
def TJ:Option HO->Prop
 | some (.lst _)=>True
 | some (.dK _)=>True
 | some (.dT _)=>True
 | some (.set _ _)=>True
 | some (.ins _ _ _)=>True
 | some (.ext _)=>True
 | _=>False
section
variable {P:Program}{w:World}{H:Hp}{h h':Heap}{x e:Addr}{o':HO}
theorem ul.write (ok:ul P w H h)(mu:TJ (H x))(he:e=x∨H e=some (.own x))(k:∀b u,b≠e->h.get? b=some u->h'.get? b=some u)(heo:∃u,h'.get? e=some u)
  (new:gk P w (upd H x o') h' x o'):ul P w (upd H x o') h':=λb u q=>by
 have Sj:∀c y,H c=some (.own y)->c≠x:=λc y r z=>by subst z;rw[r] at mu;exact mu
 have Ue:∀c xs,H c=some (.tup xs)->c≠x:=λc xs r z=>by subst z;rw[r] at mu;exact mu
 by_cases hb:b=x
 ·subst hb;rw[aB] at q;cases q;exact new
 ·rw[a9 hb] at q
  by_cases hbe:b=e
  ·have q':H b=some (.own x):=by
    rcases he with z | z
    ·exact absurd (hbe.trans z) hb
    ·rw[hbe];exact z
   rw[q] at q';cases q'
   obtain⟨v,hv⟩:=heo
   exact⟨v,by rw[hbe];exact hv⟩
  ·refine(ok b u q).stay (λc v hc r=>k c v ?_ r) (λc r=>by rw[a9 (Sj c b r)];exact r) λc xs r=>by rw[a9 (Ue c xs r)];exact r
   rcases hc with rfl | hc
   ·exact hbe
   ·rintro rfl
    rcases he with z | z
    ·exact Sj c b hc z
    ·rw[hc] at z;cases z;exact hb rfl
end
structure Un (fs ex:List Addr)(H H':Hp)(h h':Heap):Prop where
 keep:∀b o,h.get? b=some o->H b=none->b∉fs->b∉ex->h'.get? b=some o
 slot:∀b o,h.get? b=some o->H b=none->b∈fs->b∉ex->∃sl,h'.get? b=some {o with slots:=sl}
 free:∀b o,h.get? b=some o->H b=none->b∉ex->H' b=none
 there:∀b o,h.get? b=some o->b∉ex->∃o',h'.get? b=some o'
 tups:∀b xs,H b=some (.tup xs)->H' b=some (.tup xs)
 pb:∀b o u,H b=some (.Kl o u)->H' b=some (.Kl o u)
 pY:∀b ps,H b=some (.Nr ps)->∃more,H' b=some (.Nr (ps++more))
section
variable {fs fs' ex ex':List Addr}{H H1 H2:Hp}{h h1 h2 h':Heap}{a x e:Addr}{o:HO}
theorem Un.any (u:Un fs ex H H1 h h1){b:Addr}{ob:Obj}(q:h.get? b=some ob)(n:H b=none)(hx:b∉ex):∃sl,h1.get? b=some {ob with slots:=sl}:=by
 by_cases hb:b∈fs
 ·exact u.slot b ob q n hb hx
 ·exact⟨ob.slots,u.keep b ob q n hb hx⟩
theorem Un.trans (a:Un fs ex H H1 h h1)(b:Un fs ex H1 H2 h1 h2):Un fs ex H H2 h h2 where
 keep:=λc ob q n hc hx=>b.keep c ob (a.keep c ob q n hc hx) (a.free c ob q n hx) hc hx
 slot:=λc ob q n hc hx=>by
  obtain⟨sl,e1⟩:=a.slot c ob q n hc hx
  obtain⟨sl',e2⟩:=b.slot c _ e1 (a.free c ob q n hx) hc hx
  exact⟨sl',e2⟩
 free:=λc ob q n hx=>by
  obtain⟨o',e1⟩:=a.there c ob q hx
  exact b.free c o' e1 (a.free c ob q n hx) hx
 there:=λc ob q hx=>by
  obtain⟨o',e1⟩:=a.there c ob q hx
  exact b.there c o' e1 hx
 tups:=λc xs q=>b.tups c xs (a.tups c xs q)
 pb:=λc ob xs q=>b.pb c ob xs (a.pb c ob xs q)
 pY:=λc ps q=>by
  obtain⟨m1,e1⟩:=a.pY c ps q
  obtain⟨m2,e2⟩:=b.pY c _ e1
  exact⟨m1++m2,by rw[e2,Array.append_assoc]⟩
theorem Un.kept (k:∀b u,h.get? b=some u->h'.get? b=some u):Un fs ex H H h h' :=
 ⟨λb ob q _ _ _=>k b ob q,λb ob q _ _ _=>⟨ob.slots,k b ob q⟩,λ_ _ _ n _=>n,λb ob q _=>⟨ob,k b ob q⟩,λ_ _ q=>q,λ_ _ _ q=>q,λ_ ps q=>⟨#[],by rw[q];simp⟩⟩
theorem Un.refl:Un fs ex H H h h:=Un.kept λ_ _ q=>q
theorem Un.laid (k:∀b u,h.get? b=some u->h'.get? b=some u)(hp:h.objs.size<=a)(hn:H a=none):Un fs ex H (upd H a o) h h' where
 keep:=λb u q _ _ _=>k b u q
 slot:=λb u q _ _ _=>⟨u.slots,k b u q⟩
 free:=λb u q n _=>by rw[a9 (X1 (X4 (KU q) hp))];exact n
 there:=λb u q _=>⟨u,k b u q⟩
 tups:=λb xs q=>by rw[a9 (fJ q hn)];exact q
 pb:=λb u xs q=>by rw[a9 (fJ q hn)];exact q
 pY:=λb ps q=>⟨#[],by rw[a9 (fJ q hn),q];simp⟩
theorem Un.write (mu:TJ (H x))(he:e=x∨H e=some (.own x))(k:∀b u,b≠e->h.get? b=some u->h'.get? b=some u)(heo:∃u,h'.get? e=some u):Un fs ex H (upd H x o) h h':=by
 have hx:∀b,H b=none->b≠x:=λb n z=>by subst z;rw[n] at mu;exact mu
 have hb:∀b,H b=none->b≠e:=λb n z=>by
  subst z
  rcases he with r | r
  ·exact hx b n r
  ·rw[n] at r;cases r
 have hm:∀b u,H b=some u->¬ TJ (some u)->b≠x:=λb u q nm z=>by subst z;rw[q] at mu;exact nm mu
 refine⟨λb u q n _ _=>k b u (hb b n) q,λb u q n _ _=>⟨u.slots,k b u (hb b n) q⟩,λb u q n _=>by rw[a9 (hx b n)];exact n,λb u q _=> ?_,
  λb xs q=>by rw[a9 (hm b _ q λz=>z)];exact q,λb u xs q=>by rw[a9 (hm b _ q λz=>z)];exact q,λb ps q=>⟨#[],by rw[a9 (hm b _ q λz=>z),q];simp⟩⟩
 by_cases hbe:b=e
 ·subst hbe;exact heo
 ·exact⟨u,k b u hbe q⟩
theorem Un.mono (u:Un fs ex H H1 h h1)(hs:∀b∈fs,b∈fs')(hx:∀b∈ex,b∈ex'):Un fs' ex' H H1 h h1 :=
 ⟨λb ob q n hb he=>u.keep b ob q n (λz=>hb (hs b z)) λz=>he (hx b z),λ_ _ q n _ he=>u.any q n λz=>he (hx _ z),λb ob q n he=>u.free b ob q n λz=>he (hx b z),λb ob q he=>u.there b ob q λz=>he (hx b z),u.tups,u.pb,u.pY⟩
end
def TK (h:Heap)(H:Hp):List Addr:=(List.range h.objs.size).filter λa=>(H a).isSome
def zj (h:Heap)(H:Hp):Heap:=PySem.W.hideAll h (TK h H)
theorem Ib (h:Heap)(H:Hp):(zj h H).objs.size=h.objs.size:=PySem.W.hideAll_size _ _
theorem Kn {h:Heap}{H:Hp}{b:Addr}{o:Obj}(e:h.get? b=some o)(n:H b=none):(zj h H).get? b=some o :=
 PySem.W.hideAll_get _ e λhm=>by
  have q:(H b).isSome=true:=(U9.mp hm).2
  rw[n] at q;simp at q
theorem Nt {h:Heap}{H:Hp}{b:Addr}{o:Obj}(e:(zj h H).get? b=some o):h.get? b=some o/\H b=none:=by
 have e':h.get? b=some o:=PySem.W.of_hideAll (TK h H) e
 refine⟨e',?_⟩
 cases q:H b with
 | none=>rfl
 | some x=>
  have hm:b∈TK h H:=U9.mpr ⟨X2.mpr (KU e'),by simp[q]⟩
  have z:(zj h H).get? b=none:=PySem.W.hideAll_none (TK h H) hm
  rw[z] at e;cases e
def Nu (g h:Heap)(L:Addr):List (Addr×Obj):=(List.range h.objs.size).filterMap λa=>if a=L∨(g.get? a).isSome=true then none else (h.get? a).map λo=>(a,o)
def rest (g h:Heap)(L d:Addr):List (Addr×Obj):=(Nu g h L).filter λp=>decide (p.1≠d)
structure Mod (K:Frag)(mg:Str->Option Value)(base:Heap):Prop where
 TL:K.In base
 glob:base.Ns mainGlobals mg
 blt:∃mb,base.Ns builtinsNs mb/\∀x:Str,x≠ "__name__" ->mb x=bootBuiltins x
 nolimit:base.NoLimit
structure Cx where
 prog:Program
 w:World
 K:Frag
 mg:Str->Option Value
 base:Heap
 A:Around
 N:List Str
 s₀:Shared
 H₀:Hp
 env:Env
 outer:List Env
 stack:List Env
 ex:List Addr
 fn:Str->Bool
 calm:Bool
 pn:List (Addr×Obj)
 xe:Value->Shared->Prop
def frs (l:List Env):List Addr:=l.filterMap (·.frame)
abbrev Cx.fs (X:Cx):List Addr:=frs X.outer
def TN (sc:Scope)(x:Str):Prop:=sc.names.lookup x=some .local∨sc.names.lookup x=some .cell∨sc.names.lookup x=some .free
def Loc (sc:Scope)(x:Str):Prop:=sc.names.lookup x=some .local∨sc.names.lookup x=some .cell
def Look (env:Env)(h:Heap)(m:Str->Option Value)(x:Str)(u:Value):Prop :=
 (env.kindOf x=some .local/\m x=some u)∨((env.kindOf x=some .cell∨env.kindOf x=some .free)/\∃c,env.cells.lookup x=some c/\h.IsCell c (some u))
structure Cx.Ok (X:Cx):Prop where
 mod:Mod X.K X.mg X.base
 kind:X.env.scope.kind= .function
 glob:X.env.globals=mainGlobals
 blt:X.env.builtins=builtinsNs
 above:X.s₀.heap.objs.size<=X.env.locals
 inj:∀x y c,X.env.cells.lookup x=some c->X.env.cells.lookup y=some c->x=y
 has:∀x,(X.env.kindOf x=some .cell∨X.env.kindOf x=some .free)->∃c,X.env.cells.lookup x=some c
 cab:∀x c,X.fn x=true->X.env.cells.lookup x=some c->X.s₀.heap.objs.size<=c
 hd:X.calm=true->X.A.handled=none
 frames:X.A.frames=some X.stack
 stk:X.stack=X.outer∨(X.stack=X.env :: X.outer/\X.env.frame=some X.env.locals)
 R8:∀b∈X.ex,b≠X.env.locals/\∀x c,X.env.cells.lookup x=some c->c≠b
 bs:∀b o,X.base.get? b=some o->X.s₀.heap.get? b=some o/\X.H₀ b=none
 Ic:X.base.objs.size<=X.s₀.heap.objs.size
 Fb:∀b o,X.base.get? b=some o->b∉X.ex
 Fc:∀b∈X.ex,b∉X.fs
 pc:X.s₀.heap.FunFrames X.base X.outer
 Nm:∀b∈X.fs,X.H₀ b=none
structure Inv (X:Cx)(pins:List (Addr×Obj))(σ:List (Option V))(H:Hp)(s:Shared):Prop where
 ok:X.Ok
 os:s.os=X.s₀.os
 bare:AllBare s.gens
 base:Un X.fs X.ex X.H₀ H X.s₀.heap s.heap
 loc:∃m,s.heap.Ns X.env.locals m/\∀(i:Nat) (x:Str) (v:V),X.N[i]? =some x->σ[i]? =some (some v)->TN X.env.scope x->∃u,RelV v u/\Look X.env s.heap m x u
 cell:∀x c,X.env.cells.lookup x=some c->∃v,s.heap.IsCell c v
 free:H X.env.locals=none
 mH:∀x c,X.env.cells.lookup x=some c->H c=none
 pin:∀p∈X.pn++pins,s.heap.get? p.1=some p.2/\H p.1=none/\p.1≠X.env.locals/\p.1∉X.fs/\∀v,p.2.data≠ .cell v
 hok:ul X.prog X.w H s.heap
 len:σ.length=X.N.length
section
variable {X:Cx}{pins:List (Addr×Obj)}{σ:List (Option V)}{H H':Hp}{s:Shared}{h':Heap}
theorem Cx.Ok.Ug (ok:X.Ok){b:Addr}{o:Obj}(e:X.base.get? b=some o):b∉X.fs:=λhb=>by
 have:=(ok.pc.mem hb).1
 rw[e] at this;cases this
theorem Inv.bs (I:Inv X pins σ H s):∀b o,X.base.get? b=some o->s.heap.get? b=some o/\H b=none:=λb o e=>
 ⟨I.base.keep b o (I.ok.bs b o e).1 (I.ok.bs b o e).2 (I.ok.Ug e) (I.ok.Fb b o e),I.base.free b o (I.ok.bs b o e).1 (I.ok.bs b o e).2 (I.ok.Fb b o e)⟩
theorem Inv.bk (I:Inv X pins σ H s):∀b o,X.base.get? b=some o->s.heap.get? b=some o:=λb o e=>(I.bs b o e).1
theorem Inv.mod (I:Inv X pins σ H s):Mod X.K X.mg X.base:=I.ok.mod
theorem Inv.Ie (I:Inv X pins σ H s):X.K.In s.heap:=I.ok.mod.TL.keeps I.bk
theorem Inv.nolimit (I:Inv X pins σ H s):s.heap.NoLimit:=I.ok.mod.nolimit.keeps I.bk
theorem Inv.fr (I:Inv X pins σ H s):∃m,Fr X.base X.env.locals s.heap m :=
 let ⟨m,hn,_⟩:=I.loc
 ⟨m,hn,I.bk,Kq I.ok.Ic I.ok.above⟩
theorem Inv.lt (I:Inv X pins σ H s):X.env.locals < s.heap.objs.size:=let ⟨_,hn,_⟩:=I.loc;hn.lt
theorem Inv.sz (I:Inv X pins σ H s):X.s₀.heap.objs.size<=s.heap.objs.size:=Kq I.ok.above (YK I.lt)
theorem Inv.Uh (I:Inv X pins σ H s){a:Addr}(h:s.heap.objs.size<=a):a∉X.fs:=λhb=>by
 obtain⟨_,o,ho,_⟩:=I.ok.pc.mem hb
 exact absurd (X4 (KU ho) (Kq I.sz h)) (XJ _)
theorem Inv.P1 (I:Inv X pins σ H s):∀x c,X.env.cells.lookup x=some c->c≠X.env.locals:=λx c e z=>by
 obtain⟨v,o,ho,hd⟩:=I.cell x c e
 obtain⟨m,⟨o',es,ep,ho',hd',_⟩,_⟩:=I.loc
 rw[z,ho'] at ho;cases ho;rw[hd'] at hd;cases hd
theorem Inv.pc (I:Inv X pins σ H s):s.heap.FunFrames X.base X.outer:=by
 have all:∀(l:List Env),(∀b∈frs l,b∈X.fs)->X.s₀.heap.FunFrames X.base l->s.heap.FunFrames X.base l:=by
  intro l
  induction l with
  | nil=>intro _ _;trivial
  | cons env r ih=>
   intro hs hl
   obtain⟨hk,⟨L,o,hf,hn,ho,hd⟩,hr⟩:=hl
   have hL:L∈X.fs:=hs L (by unfold frs;rw[List.filterMap_cons,hf];exact K8)
   obtain⟨sl,e⟩:=I.base.slot L o ho (I.ok.Nm L hL) hL λz=>I.ok.Fc L z hL
   exact⟨hk,⟨L,_,hf,hn,e,hd⟩,ih (λb hb=>hs b (by unfold frs;rw[List.filterMap_cons,hf];exact K9 _ hb)) hr⟩
 exact all X.outer (λ_ hb=>hb) I.ok.pc
theorem Inv.stack (I:Inv X pins σ H s):s.heap.FunFrames X.base X.stack:=by
 rcases I.ok.stk with e | ⟨e,hf⟩
 ·rw[e];exact I.pc
 ·rw[e]
  obtain⟨m,hn,_⟩:=I.loc
  refine .cons (by rw[I.ok.kind];decide) hf hn ?_ I.pc
  exact Heap.get?_none_of_le (Kq I.ok.Ic I.ok.above)
theorem Inv.Fd (I:Inv X pins σ H s):∀b∈frs X.stack,b∈X.env.locals :: X.fs:=λb hb=>by
 rcases I.ok.stk with e | ⟨e,hf⟩
 ·rw[e] at hb;exact K9 _ hb
 ·rw[e] at hb
  unfold frs at hb
  rw[List.filterMap_cons,hf] at hb
  exact hb
theorem Inv.GZ (I:Inv X pins σ H s):∀b∈frs X.stack,H b=none:=λb hb=>by
 rcases K2.mp (I.Fd b hb) with e | hb
 ·rw[e];exact I.free
 ·obtain⟨_,o,ho,_⟩:=I.ok.pc.mem hb
  exact I.base.free b o ho (I.ok.Nm b hb) λz=>I.ok.Fc b z hb
theorem Inv.step {g':Array GenState}{t':Nat}{d':Drawn}{ch:List Addr}(I:Inv X pins σ H s)
  (hch:∀b∈ch,(b∈X.ex∨X.s₀.heap.objs.size<=b)/\b≠X.env.locals/\(∀x c,X.env.cells.lookup x=some c->c≠b)/\∀p∈X.pn++pins,p.1≠b)
  (keep:∀b o,b≠X.env.locals->b∉X.fs->b∉ch->s.heap.get? b=some o->H b=none->h'.get? b=some o)
  (slot:∀b o,b≠X.env.locals->b∈X.fs->b∉ch->s.heap.get? b=some o->H b=none->∃sl,h'.get? b=some {o with slots:=sl}) (free:∀b o,b∉ch->s.heap.get? b=some o->H b=none->H' b=none)
  (there:∀b o,b∉ch->s.heap.get? b=some o->∃o',h'.get? b=some o')
  (tups:∀b xs,H b=some (.tup xs)->H' b=some (.tup xs)) (pb:∀b o u,H b=some (.Kl o u)->H' b=some (.Kl o u)) (pY:∀b ps,H b=some (.Nr ps)->∃more,H' b=some (.Nr (ps++more)))
  (ns:∀m,s.heap.Ns X.env.locals m->h'.Ns X.env.locals m) (hok:ul X.prog X.w H' h') (hg:AllBare g') :
  Inv X pins σ H' {s with heap:=h',gens:=g',drawn:=d',toks:=t'}:=by
 have VY:∀b o,X.s₀.heap.get? b=some o->b≠X.env.locals:=λb o e=>X1 (X4 (KU e) I.ok.above)
 have TQ:∀b o,X.s₀.heap.get? b=some o->b∉X.ex->b∉ch:=λb o e hx hb=>by
  rcases(hch b hb).1 with z | z
  ·exact hx z
  ·exact absurd (X4 (KU e) z) (XJ _)
 have cellK:∀x c,X.env.cells.lookup x=some c->∀v,s.heap.IsCell c v->h'.IsCell c v:=λx c e v ⟨o,ho,hd⟩=>by
  have Sk:c∉ch:=λz=>(hch c z).2.2.1 x c e rfl
  by_cases hc:c∈X.fs
  ·obtain⟨sl,q⟩:=slot c o (I.P1 x c e) hc Sk ho (I.mH x c e)
   exact⟨_,q,hd⟩
  ·exact⟨o,keep c o (I.P1 x c e) hc Sk ho (I.mH x c e),hd⟩
 refine⟨I.ok,I.os,hg,⟨λb o e n hb hx=> ?_,λb o e n hb hx=> ?_,λb o e n hx=> ?_,λb o e hx=> ?_,λb xs e=>tups b xs (I.base.tups b xs e),λb o xs e=>pb b o xs (I.base.pb b o xs e),λb ps e=> ?_⟩,?_,λx c e=> ?_,?_,λx c e=> ?_,λp hp=> ?_,hok,I.len⟩
 ·exact keep b o (VY b o e) hb (TQ b o e hx) (I.base.keep b o e n hb hx) (I.base.free b o e n hx)
 ·obtain⟨sl,e1⟩:=I.base.slot b o e n hb hx
  obtain⟨sl',e2⟩:=slot b _ (VY b o e) hb (TQ b o e hx) e1 (I.base.free b o e n hx)
  exact⟨sl',e2⟩
 ·obtain⟨o',e1⟩:=I.base.there b o e hx
  exact free b o' (TQ b o e hx) e1 (I.base.free b o e n hx)
 ·obtain⟨o',e1⟩:=I.base.there b o e hx
  exact there b o' (TQ b o e hx) e1
 ·obtain⟨m1,e1⟩:=I.base.pY b ps e
  obtain⟨m2,e2⟩:=pY b _ e1
  exact⟨m1++m2,by rw[e2,Array.append_assoc]⟩
 ·obtain⟨m,hn,hl⟩:=I.loc
  refine⟨m,ns m hn,λi x v e1 e2 e3=> ?_⟩
  obtain⟨u,r,l⟩:=hl i x v e1 e2 e3
  refine⟨u,r,?_⟩
  rcases l with l | ⟨k,c,e,z⟩
  ·exact .inl l
  ·exact .inr ⟨k,c,e,cellK x c e _ z⟩
 ·obtain⟨v,z⟩:=I.cell x c e
  exact⟨v,cellK x c e v z⟩
 ·obtain⟨m,⟨o,_,_,ho,_⟩,_⟩:=I.loc
  exact free _ o (λz=>(hch _ z).2.1 rfl) ho I.free
 ·obtain⟨v,o,ho,hd⟩:=I.cell x c e
  exact free c o (λz=>(hch c z).2.2.1 x c e rfl) ho (I.mH x c e)
 ·obtain⟨e,n,ne,nf,d⟩:=I.pin p hp
  have Sk:p.1∉ch:=λz=>(hch p.1 z).2.2.2 p hp rfl
  exact⟨keep p.1 p.2 ne nf Sk e n,free p.1 p.2 Sk e n,ne,nf,d⟩
theorem Inv.un {t':Nat}(I:Inv X pins σ H s)(u:Un X.fs [] H H' s.heap h')(hok:ul X.prog X.w H' h'):Inv X pins σ H' {s with heap:=h',toks:=t'}:=by
 obtain⟨m,⟨o,es,ep,ho,r⟩,_⟩:=id I.loc
 obtain⟨sl,hL⟩:=u.any ho I.free (by simp)
 exact I.step (g':=s.gens) (d':=s.drawn) (ch:=[]) (λ_ z=>nomatch z) (λb o _ hb _ e n=>u.keep b o e n hb (by simp)) (λb o _ hb _ e n=>u.slot b o e n hb (by simp)) (λb o _ e n=>u.free b o e n (by simp)) (λb o _ e=>u.there b o e (by simp)) u.tups u.pb u.pY (λm' hm=>by
  obtain⟨o',es',ep',ho',r'⟩:=hm
  rw[ho] at ho';cases ho'
  exact⟨_,es',ep',hL,r'⟩) hok I.bare
theorem Inv.call {g':Array GenState}{t':Nat}{d':Drawn}{ch:List Addr}(I:Inv X pins σ H s)(u:Un (frs X.stack) ch H H' s.heap h')(hok:ul X.prog X.w H' h')(hg:AllBare g')
  (hch:∀b∈ch,(b∈X.ex∨X.s₀.heap.objs.size<=b)/\b≠X.env.locals/\(∀x c,X.env.cells.lookup x=some c->c≠b)/\∀p∈X.pn++pins,p.1≠b) :
  Inv X pins σ H' {s with heap:=h',gens:=g',drawn:=d',toks:=t'}:=by
 obtain⟨m,⟨o,es,ep,ho,r⟩,_⟩:=id I.loc
 obtain⟨sl,hL⟩:=u.any ho I.free λz=>(hch _ z).2.1 rfl
 exact I.step (ch:=ch) hch (λb o hL hb hc e n=>u.keep b o e n (λz=>(K2.mp (I.Fd b z)).elim hL hb) hc) (λb o _ _ hc e n=>u.any e n hc) (λb o hc e n=>u.free b o e n hc) (λb o hc e=>u.there b o e hc) u.tups u.pb u.pY (λm' hm=>by
  obtain⟨o',es',ep',ho',r'⟩:=hm
  rw[ho] at ho';cases ho'
  exact⟨_,es',ep',hL,r'⟩) hok hg
theorem Inv.turned {t':Nat}{it:Addr}(I:Inv X pins σ H s)(k:∀b o,b≠it->s.heap.get? b=some o->h'.get? b=some o)(hn:H it=none)(hL:it≠X.env.locals)
  (h1:it∈X.ex∨X.s₀.heap.objs.size<=it) (h2:∀x c,X.env.cells.lookup x=some c->c≠it) (h3:∀p∈X.pn++pins,p.1≠it):Inv X pins σ H {s with heap:=h',toks:=t'}:=by
 have VZ:∀b u,H b=some u->b≠it:=λb u e z=>by rw[z,hn] at e;cases e
 refine I.step (g':=s.gens) (d':=s.drawn) (ch:=[it]) (λb hb=> ?_) (λb o _ _ hc e _=>k b o (λz=>hc (by simp[z])) e) (λb o _ _ hc e _=>⟨o.slots,k b o (λz=>hc (by simp[z])) e⟩) (λ_ _ _ _ n=>n)
  (λb o hc e=>⟨o,k b o (λz=>hc (by simp[z])) e⟩) (λ_ _ e=>e) (λ_ _ _ e=>e) (λb ps e=>⟨#[],by rw[e];simp⟩) (λm hm=> ?_) (λb u e=> ?_) I.bare
 ·have e:b=it:=by simpa using hb
  subst e
  exact⟨h1,hL,h2,h3⟩
 ·obtain⟨o,es,ep,ho,r⟩:=hm
  exact⟨o,es,ep,k _ o (Ne.symm hL) ho,r⟩
 ·refine(I.hok b u e).stay (λc v hc q=>k c v ?_ q) (λ_ q=>q) λ_ _ q=>q
  rcases hc with z | z
  ·rw[z];exact VZ b u e
  ·exact VZ c _ z
theorem Inv.tok (I:Inv X pins σ H s)(t:Nat):Inv X pins σ H {s with toks:=t}:=I.un (h':=s.heap) (t':=t) Un.refl I.hok
theorem Inv.kept {t':Nat}(I:Inv X pins σ H s)(k:∀b u,s.heap.get? b=some u->h'.get? b=some u):Inv X pins σ H {s with heap:=h',toks:=t'}:=I.un (Un.kept k) (I.hok.kept k)
theorem Inv.laid {a:Addr}{o:HO}{t':Nat}(I:Inv X pins σ H s)(k:∀b u,s.heap.get? b=some u->h'.get? b=some u)(hp:s.heap.objs.size<=a)(new:gk X.prog X.w (upd H a o) h' a o) :
  Inv X pins σ (upd H a o) {s with heap:=h',toks:=t'}:=I.un (Un.laid k hp (I.hok.fresh hp)) (I.hok.laid k hp new)
theorem Inv.write {x e:Addr}{o:HO}{t':Nat}(I:Inv X pins σ H s)(mu:TJ (H x))(he:e=x∨H e=some (.own x))(k:∀b u,b≠e->s.heap.get? b=some u->h'.get? b=some u)(heo:∃u,h'.get? e=some u)
  (new:gk X.prog X.w (upd H x o) h' x o):Inv X pins σ (upd H x o) {s with heap:=h',toks:=t'}:=I.un (Un.write mu he k heo) (I.hok.write mu he k heo new)
theorem Inv.weak {σ':List (Option V)}(I:Inv X pins σ H s)(hl:σ'.length=σ.length)(w:∀(i:Nat) v,σ'[i]? =some (some v)->σ[i]? =some (some v)):Inv X pins σ' H s :=
 ⟨I.ok,I.os,I.bare,I.base,let ⟨m,hn,hl'⟩:=I.loc;⟨m,hn,λi x v e1 e2 e3=>hl' i x v e1 (w i v e2) e3⟩,I.cell,I.free,I.mH,I.pin,I.hok,hl.trans I.len⟩
theorem Inv.G0 {Pl:List (Addr×Obj)}(I:Inv X pins σ H s)(h:∀p∈Pl,s.heap.get? p.1=some p.2/\H p.1=none/\p.1≠X.env.locals/\p.1∉X.fs/\∀v,p.2.data≠ .cell v):Inv X Pl σ H s :=
 ⟨I.ok,I.os,I.bare,I.base,I.loc,I.cell,I.free,I.mH,λp hp=>(Kk.mp hp).elim (λz=>I.pin p (KY _ z)) (h p),I.hok,I.len⟩
theorem B7 {N:List Str}(hN:N.Nodup){i j:Nat}{x:Str}(a:N[i]? =some x)(b:N[j]? =some x):i=j:=by
 obtain⟨h1,e1⟩:=X5.mp a
 obtain⟨h2,e2⟩:=X5.mp b
 exact(List.getElem_inj hN).mp (e1.trans e2.symm)
theorem yo {M:Model}{A:Around}{E:Jx}{i:Nat}{x:Str}{v:V}{u:Value}{Q:Unit->Shared->Prop}(I:Inv X pins σ H s)(hN:X.N.Nodup)(hi:X.N[i]? =some x)(hx:Loc X.env.scope x)(r:RelV v u)
  (h:∀s',Inv X pins (σ.set i (some v)) H s'->(∃a,Heap.SameBut a s.heap s'.heap/\(a=X.env.locals∨X.env.cells.lookup x=some a))->Q () s') (hf:X.fn x=true∨X.env.scope.names.lookup x=some .local:=by first | exact .inl rfl | exact .inr rfl | assumption):wpAny M A (storeName X.env x u) Q E s:=by
 obtain⟨m,hn,hl⟩:=id I.loc
 have hcls:(X.env.scope.kind== .class || (X.env.scope.kind== .module && X.env.locals !=X.env.globals))=false:=by rw[I.ok.kind];rfl
 have hiσ:i < σ.length:=by rw[I.len];exact(X5.mp hi).1
 have P1:=I.P1
 have tracked:∀{a:Addr} {h':Heap},(∃o,s.heap.get? a=some o/\H a=none)->Heap.SameBut a s.heap h'->ul X.prog X.w H h':=λ{a h'} ha hs b ob e=>by
  obtain⟨_,_,hfree⟩:=ha
  refine(I.hok b ob e).stay (λc w' hc q=>(hs.2 c ?_).trans q) (λ_ q=>q) λ_ _ q=>q
  rintro rfl
  rcases hc with rfl | hc
  ·rw[hfree] at e;cases e
  ·rw[hfree] at hc;cases hc
 rcases hx with hk | hk
 ·refine wpAny_storeName_local hk hn (λh' hn' hs=> ?_) hcls
  obtain⟨oL,_,_,hoL,_⟩:=id hn
  refine h _ ⟨I.ok,I.os,I.bare,⟨λb o e n hb hx=> ?_,λb o e n hb hx=> ?_,I.base.free,λb o e hx=> ?_,I.base.tups,I.base.pb,I.base.pY⟩,⟨_,hn',λj y v' e1 e2 e3=> ?_⟩,λy c e=> ?_,I.free,I.mH,λp hp=> ?_,tracked ⟨oL,hoL,I.free⟩ hs,by simpa using I.len⟩ ⟨_,hs,.inl rfl⟩
  ·exact(hs.2 b (X1 (X4 (KU e) I.ok.above))).trans (I.base.keep b o e n hb hx)
  ·obtain⟨sl,e1⟩:=I.base.slot b o e n hb hx
   exact⟨sl,(hs.2 b (X1 (X4 (KU e) I.ok.above))).trans e1⟩
  ·obtain⟨o',e1⟩:=I.base.there b o e hx
   exact⟨o',(hs.2 b (X1 (X4 (KU e) I.ok.above))).trans e1⟩
  ·by_cases hj:j=i
   ·subst hj
    rw[hi] at e1;cases e1
    rw[XU hiσ] at e2
    cases e2
    exact⟨u,r,.inl ⟨hk,by simp⟩⟩
   ·rw[XY (Ne.symm hj)] at e2
    obtain⟨u',r',q⟩:=hl j y v' e1 e2 e3
    refine⟨u',r',?_⟩
    rcases q with⟨k,e⟩ | ⟨k,c,e,z⟩
    ·refine .inl ⟨k,?_⟩
     have:y≠x:=λe=>hj (B7 hN e1 (e ▸ hi))
     simp[this,e]
    ·exact .inr ⟨k,c,e,z.sameBut hs (P1 y c e)⟩
  ·obtain⟨w',z⟩:=I.cell y c e
   exact⟨w',z.sameBut hs (P1 y c e)⟩
  ·obtain⟨e,n,ne,nf,d⟩:=I.pin p hp
   exact⟨(hs.2 p.1 ne).trans e,n,ne,nf,d⟩
 ·have hfn:X.fn x=true:=by
   rcases hf with z | z
   ·exact z
   ·rw[z] at hk;cases hk
  obtain⟨c,hc⟩:=I.ok.has x (.inl hk)
  obtain⟨w',z⟩:=I.cell x c hc
  refine wpAny_storeName_cell I.ok.kind hk hc z (λh' hc' hs=> ?_)
  obtain⟨oc,hoc,Ui⟩:=id z
  refine h {s with heap:=h'} ⟨I.ok,I.os,I.bare,⟨λb o e n hb hx=> ?_,λb o e n hb hx=> ?_,I.base.free,λb o e hx=> ?_,I.base.tups,I.base.pb,I.base.pY⟩,⟨m,hn.sameBut hs (Ne.symm (P1 x c hc)),λj y v' e1 e2 e3=> ?_⟩,λy c' e=> ?_,I.free,I.mH,λp hp=> ?_,tracked ⟨oc,hoc,I.mH x c hc⟩ hs,by simpa using I.len⟩ ⟨c,hs,.inr hc⟩
  ·exact(hs.2 b (X1 (X4 (KU e) (I.ok.cab x c hfn hc)))).trans (I.base.keep b o e n hb hx)
  ·obtain⟨sl,e1⟩:=I.base.slot b o e n hb hx
   exact⟨sl,(hs.2 b (X1 (X4 (KU e) (I.ok.cab x c hfn hc)))).trans e1⟩
  ·obtain⟨o',e1⟩:=I.base.there b o e hx
   exact⟨o',(hs.2 b (X1 (X4 (KU e) (I.ok.cab x c hfn hc)))).trans e1⟩
  ·by_cases hj:j=i
   ·subst hj
    rw[hi] at e1;cases e1
    rw[XU hiσ] at e2
    cases e2
    exact⟨u,r,.inr ⟨.inl hk,c,hc,hc'⟩⟩
   ·rw[XY (Ne.symm hj)] at e2
    obtain⟨u',r',q⟩:=hl j y v' e1 e2 e3
    refine⟨u',r',?_⟩
    rcases q with q | ⟨k,c',e,z'⟩
    ·exact .inl q
    ·refine .inr ⟨k,c',e,z'.sameBut hs ?_⟩
     rintro rfl
     exact hj (B7 hN e1 (I.ok.inj _ _ _ e hc ▸ hi))
  ·by_cases hcc:c'=c
   ·subst hcc;exact⟨_,hc'⟩
   ·obtain⟨w2,z2⟩:=I.cell y c' e
    exact⟨w2,z2.sameBut hs hcc⟩
  ·obtain⟨e,n,ne,nf,d⟩:=I.pin p hp
   refine⟨(hs.2 p.1 ?_).trans e,n,ne,nf,d⟩
   intro q
   rw[q,hoc] at e
   have q':oc=p.2:=Option.some.inj e
   exact d w' (by rw[←q'];exact Ui)
theorem B8 {M:Model}{A:Around}{E:Jx}{i:Nat}{x:Str}{v:V}{u:Value}{Q:Unit->Shared->Prop}(I:Inv X pins σ H s)(hN:X.N.Nodup)(hi:X.N[i]? =some x)(hx:Loc X.env.scope x)(r:RelV v u)
  (h:∀s',Inv X pins (σ.set i (some v)) H s'->Q () s') (hf:X.fn x=true∨X.env.scope.names.lookup x=some .local:=by first | exact .inl rfl | exact .inr rfl | assumption):wpAny M A (storeName X.env x u) Q E s :=
 yo I hN hi hx r (λs' I' _=>h s' I') hf
theorem Inv.call' {s':Shared}{ch:List Addr}(I:Inv X pins σ H s)(ho:s'.os=s.os)(u:Un (frs X.stack) ch H H' s.heap s'.heap)(hok:ul X.prog X.w H' s'.heap)(hg:AllBare s'.gens)
  (hch:∀b∈ch,(b∈X.ex∨X.s₀.heap.objs.size<=b)/\b≠X.env.locals/\(∀x c,X.env.cells.lookup x=some c->c≠b)/\∀p∈X.pn++pins,p.1≠b):Inv X pins σ H' s':=by
 obtain⟨h',g',d',t',o'⟩:=s'
 have e:o'=s.os:=ho
 subst e
 exact I.call (g':=g') (t':=t') (d':=d') u hok hg hch
end
abbrev XK:=Value->Option Addr->Hp->Prop
abbrev St:=List (Option V)
abbrev VK:=V->Hp->Prop
abbrev TE:=St->Hp->VK->Prop
abbrev TT:=St->Hp->(Bool->Hp->Prop)->Prop
abbrev TA:=St->Hp->(List V->Hp->Prop)->Prop
structure Ends where
 nx:St->Hp->Prop
 rt:VK
 bk:St->Hp->Prop:=λ_ _=>False
 ct:St->Hp->Prop:=λ_ _=>False
abbrev TS:=Ends->St->Hp->Prop
def EP (X:Cx)(pins:List (Addr×Obj))(σ:St)(Q:VK)(u:Value)(s':Shared):Prop:=∃v H',Inv X pins σ H' s'/\RelV v u/\Q v H'
def TP (X:Cx)(pins:List (Addr×Obj))(σ:St)(Q:Bool->Hp->Prop)(b:Bool)(s':Shared):Prop:=∃H',Inv X pins σ H' s'/\Q b H'
def AP (X:Cx)(pins:List (Addr×Obj))(σ:St)(Q:List V->Hp->Prop)(us:List Value)(s':Shared):Prop:=∃vs H',Inv X pins σ H' s'/\Vals vs us/\Q vs H'
def SP (X:Cx)(pins:List (Addr×Obj))(D:Ends)(f:Flow)(s':Shared):Prop :=
 match f with
 | .next=>∃σ' H',Inv X pins σ' H' s'/\D.nx σ' H'
 | .brk=>∃σ' H',Inv X pins σ' H' s'/\D.bk σ' H'
 | .cont=>∃σ' H',Inv X pins σ' H' s'/\D.ct σ' H'
 | .ret u=>∃v σ' H',Inv X pins σ' H' s'/\RelV v u/\D.rt v H'
def PE (X:Cx)(e:Expr)(t:TE):Prop :=
 ∀(pins:List (Addr×Obj)) (s:Shared) (σ:St) (H:Hp) (Q:VK),Inv X pins σ H s->t σ H Q->wpAny (model X.prog X.w) X.A (eval e X.env) (EP X pins σ Q) X.xe s
def PT (X:Cx)(e:Expr)(t:TT):Prop :=
 ∀(pins:List (Addr×Obj)) (s:Shared) (σ:St) (H:Hp) (Q:Bool->Hp->Prop),Inv X pins σ H s->t σ H Q->wpAny (model X.prog X.w) X.A (isTrue e X.env (eval e X.env)) (TP X pins σ Q) X.xe s
def PW (X:Cx)(e:Expr)(t:TT):Prop :=
 ∀(whole:Sem Value) (pins:List (Addr×Obj)) (s:Shared) (σ:St) (H:Hp) (Q:Bool->Hp->Prop),Inv X pins σ H s->t σ H Q->wpAny (model X.prog X.w) X.A (isTrue e X.env whole) (TP X pins σ Q) X.xe s
theorem PW.pt {X:Cx}{e:Expr}{t:TT}(h:PW X e t):PT X e t:=h _
def PA (X:Cx)(es:List Expr)(t:TA):Prop :=
 ∀(pos:Pos) (pins:List (Addr×Obj)) (s:Shared) (σ:St) (H:Hp) (Q:List V->Hp->Prop),Inv X pins σ H s->t σ H Q->wpAny (model X.prog X.w) X.A (spliced (backTo pos (starEach es X.env))) (AP X pins σ Q) X.xe s
def PS (X:Cx)(st:Stmt)(t:TS):Prop :=
 ∀(pins:List (Addr×Obj)) (s:Shared) (σ:St) (H:Hp) (D:Ends),Inv X pins σ H s->t D σ H->wpAny (model X.prog X.w) X.A (exec st X.env) (SP X pins D) X.xe s
def xn (X:Cx)(st:List Stmt)(t:TS):Prop :=
 ∀(pins:List (Addr×Obj)) (s:Shared) (σ:St) (H:Hp) (D:Ends),Inv X pins σ H s->t D σ H->wpAny (model X.prog X.w) X.A (execs st X.env) (SP X pins D) X.xe s
theorem eQ {α:Type}{t:Sem α}{Q Q':α->Shared->Prop}{M:Model}{A:Around}{E:Jx}{s:Shared}(h:wpAny M A t Q E s)(hQ:∀a s,Q a s->Q' a s):wpAny M A t Q' E s:=wpAny_mono h hQ λ_ _ x=>x
section
variable {X:Cx}
def pd (i:Nat):TE:=λσ H Q=>∃v,σ[i]? =some (some v)/\Q v H
def tC (v:V):TE:=λ_ H Q=>Q v H
theorem Ko {i:Nat}{x:Str}{pos:Pos}(hN:X.N[i]? =some x)(hv:TN X.env.scope x)(hd:(x==("__debug__":Str))=false:=by decide)(hcd:(x==("__classdict__":Str))=false:=by decide):PE X (.Name x pos) (pd i):=by
 intro pins s σ H Q I h
 obtain⟨v,e,h⟩:=h
 obtain⟨m,hn,hl⟩:=I.loc
 obtain⟨u,r,l⟩:=hl i x v hN e hv
 have fin:EP X pins σ Q u s:=⟨v,H,I,r,h⟩
 rcases l with⟨hk,hm⟩ | ⟨hk,c,hc,hcell⟩
 ·exact wpAny_Name (wpAny_loadName_local I.ok.kind hk hn hm fin) hd
 ·rcases hk with hk | hk
  ·exact wpAny_Name (wpAny_loadName_cell I.ok.kind hk hc hcell fin) hd
  ·exact wpAny_Name (wpAny_loadName_free I.ok.kind hk hc hcell fin hcd) hd
theorem P2 {i j pos}:PE X (.Constant (.int i) j pos) (tC (.int i)):=λ_ _ _ H _ I h=>wpAny_Constant_int ⟨.int i,H,I.tok _,⟨_,rfl⟩,h⟩
theorem Sm {b j pos}:PE X (.Constant (.bool b) j pos) (tC (.bl b)):=λ_ _ _ H _ I h=>Constant_bool ⟨.bl b,H,I,rfl,h⟩
theorem P4 {j pos}:PE X (.Constant .none j pos) (tC .non):=λ_ _ _ H _ I h=>Constant_none ⟨.non,H,I,rfl,h⟩
def Gl (X:Cx)(x:Str):Prop:=X.env.kindOf x=some .globalImplicit
theorem G1 {E:Jx}{pins:List (Addr×Obj)}{s:Shared}{σ:St}{H:Hp}{x:Str}{u:Value}{pos:Pos}{Q:Jx}(I:Inv X pins σ H s)(hg:Gl X x)(hm:X.mg x=some u)(h:Q u s)
  (hd:(x==("__debug__":Str))=false:=by decide):wpAny (model X.prog X.w) X.A (eval (.Name x pos) X.env) Q E s :=
 Calls.Name_function_global I.ok.kind hg (Calls.loadGlobal_global (by rw[I.ok.glob];exact I.mod.glob.keeps I.bk) hm h) hd
theorem gS {E:Jx}{pins:List (Addr×Obj)}{s:Shared}{σ:St}{H:Hp}{x:Str}{u:Value}{pos:Pos}{Q:Jx}(I:Inv X pins σ H s)(hg:Gl X x)(hm:X.mg x=none)(hv:bootBuiltins x=some u)(h:Q u s)
  (hn:x≠ "__name__":=by decide) (hd:(x==("__debug__":Str))=false:=by decide):wpAny (model X.prog X.w) X.A (eval (.Name x pos) X.env) Q E s:=by
 obtain⟨mb,h1,h2⟩:=I.mod.blt
 exact Calls.Name_function_global I.ok.kind hg (Calls.loadGlobal_builtin (by rw[I.ok.glob];exact I.mod.glob.keeps I.bk) hm (by rw[I.ok.blt];exact h1.keeps I.bk) ((h2 x hn).trans hv) h) hd
theorem Nv {x:Str}{v:V}{u:Value}{pos:Pos}(hg:Gl X x)(hm:X.mg x=some u)(r:RelV v u)(hd:(x==("__debug__":Str))=false:=by decide):PE X (.Name x pos) (tC v) :=
 λ_ _ _ H _ I h=>G1 I hg hm ⟨v,H,I,r,h⟩ hd
theorem um {x:Str}{v:V}{u:Value}{pos:Pos}(hg:Gl X x)(hm:X.mg x=none)(hv:bootBuiltins x=some u)(r:RelV v u)(hn:x≠ "__name__":=by decide)(hd:(x==("__debug__":Str))=false:=by decide):PE X (.Name x pos) (tC v) :=
 λ_ _ _ H _ I h=>gS I hg hm hv ⟨v,H,I,r,h⟩ hn hd
variable {a b:Expr}{ta tb:TE}{pos:Pos}
def tB (t:TE):TT:=λσ H Q=>t σ H λx H1=>∃c,x= .bl c/\Q c H1
theorem P5 {e:Expr}{t:TE}(h:PE X e t)(he:∀whole,isTrue e X.env whole=(do let v←whole;standAt e.pos;holding [v] (truthy v)):=by intro _;rfl):PT X e (tB t):=by
 intro pins s σ H Q I hw
 refine isTrue_plain (eQ (h pins s σ H _ I hw) λv s1 ⟨x,H1,I1,r1,q1⟩=> ?_) (he _)
 obtain⟨d,rfl,q⟩:=q1
 cases r1
 exact wpAny_truthy_bool ⟨H1,I1,q⟩
variable {tA TR:TT}{rest:List Expr}
def Ul (t u:TT):TT:=λσ H Q=>t σ H λc H1=>if c=true then u σ H1 Q else Q false H1
def WE (t u:TT):TT:=λσ H Q=>t σ H λc H1=>if c=true then Q true H1 else u σ H1 Q
def Um (t:TT):TT:=λσ H Q=>t σ H λc H1=>Q (!c) H1
theorem Nw (ha:PT X a tA):PW X (.BoolOp .And [a] pos) tA:=by
 intro wh pins s σ H Q I h
 refine isTrue_and (eQ (ha pins s σ H Q I h) λc s1 e=> ?_)
 cases c with
 | true=>exact isTrue_and_nil e
 | false=>exact e
theorem P6 (ha:PT X a tA):PW X (.BoolOp .Or [a] pos) tA:=by
 intro wh pins s σ H Q I h
 refine isTrue_or (eQ (ha pins s σ H Q I h) λc s1 e=> ?_)
 cases c with
 | false=>exact isTrue_or_nil e
 | true=>exact e
theorem P7 (ha:PT X a tA)(hb:PW X (.BoolOp .And (b :: rest) pos) TR):PW X (.BoolOp .And (a :: b :: rest) pos) (Ul tA TR):=by
 intro wh pins s σ H Q I h
 refine isTrue_and (eQ (ha pins s σ H _ I h) λc s1 ⟨H1,I1,q1⟩=> ?_)
 cases c with
 | true=>exact hb wh pins s1 σ H1 Q I1 q1
 | false=>exact⟨H1,I1,q1⟩
theorem Sn (ha:PT X a tA)(hb:PW X (.BoolOp .Or (b :: rest) pos) TR):PW X (.BoolOp .Or (a :: b :: rest) pos) (WE tA TR):=by
 intro wh pins s σ H Q I h
 refine isTrue_or (eQ (ha pins s σ H _ I h) λc s1 ⟨H1,I1,q1⟩=> ?_)
 cases c with
 | true=>exact⟨H1,I1,q1⟩
 | false=>exact hb wh pins s1 σ H1 Q I1 q1
theorem P8 (ha:PT X a tA):PT X (.UnaryOp .Not a pos) (Um tA):=by
 intro pins s σ H Q I h
 exact isTrue_not (ha pins s σ H (λc H1=>Q (!c) H1) I h)
def So (ta tb:TE):TE:=λσ H Q=>ta σ H λx H1=>∃c,x= .bl c/\if c=true then tb σ H1 Q else Q (.bl false) H1
def Sq (ta:TE):TE:=λσ H Q=>ta σ H λx H1=>∃c,x= .bl c/\Q (.bl (!c)) H1
theorem P9 {op}{t:TE}(h:PE X a t):PE X (.BoolOp op [a] pos) t:=λpins s σ H Q I hw=>BoolOp_one (h pins s σ H Q I hw)
theorem P_ (ha:PE X a ta)(hb:PE X (.BoolOp .And (b :: rest) pos) tb):PE X (.BoolOp .And (a :: b :: rest) pos) (So ta tb):=by
 intro pins s σ H Q I h
 refine BoolOp_and (eQ (ha pins s σ H _ I h) λv s1 ⟨x,H1,I1,r1,q1⟩=> ?_)
 obtain⟨c,rfl,q1⟩:=q1
 cases r1
 refine wpAny_truthy_bool ?_
 cases c with
 | true=>exact hb pins s1 σ H1 Q I1 q1
 | false=>exact⟨.bl false,H1,I1,rfl,q1⟩
theorem Qa (ha:PE X a ta):PE X (.UnaryOp .Not a pos) (Sq ta):=by
 intro pins s σ H Q I h
 refine UnaryOp_ (eQ (ha pins s σ H _ I h) λv s1 ⟨x,H1,I1,r1,q1⟩=> ?_)
 obtain⟨c,rfl,q1⟩:=q1
 cases r1
 exact not_of (wpAny_truthy_bool ⟨.bl (!c),H1,I1,rfl,q1⟩)
def WG (t:TT)(ta tb:TE):TE:=λσ H Q=>t σ H λc H1=>if c=true then ta σ H1 Q else tb σ H1 Q
theorem Kp {c:Expr}(hc:PT X c tA)(ha:PE X a ta)(hb:PE X b tb):PE X (.IfExp c a b pos) (WG tA ta tb):=by
 intro pins s σ H Q I h
 refine wpAny_IfExp (eQ (hc pins s σ H _ I h) λd s1 ⟨H1,I1,q1⟩=> ?_)
 cases d with
 | true=>exact ha pins s1 σ H1 Q I1 q1
 | false=>exact hb pins s1 σ H1 Q I1 q1
end
def iV (K:Frag)(H:Hp)(a:Addr)(xs:List V):Prop :=
 Rd H a (.lst xs)∨
  ∃(o:Obj) (its:Array Value) (n:Nat),K.lookup a=some o/\o.cls= .type "list" /\o.dict=none/\o.data= .seq its n/\its.size<=sizeLine/\Vals xs its.toList
def gz (K:Frag)(H:Hp)(a:Addr)(xs:List V):Prop :=
 Rd H a (.tup xs)∨
  ∃(o:Obj) (its:Array Value) (n:Nat),K.lookup a=some o/\o.cls= .type "tuple" /\o.data= .seq its n/\its.size<=sizeLine/\Vals xs its.toList
def Uo:Value->Option V
 | .none=>some .non
 | .bool b=>some (.bl b)
 | .int i _=>some (.int i)
 | .str x _=>some (.str x)
 | .bytes b _=>some (.Ud b)
 | .float b _=>some (.flt b)
 | .ref a=>some (.ref a)
 | .type n=>some (.ty n)
 | _=>none
theorem RelV.abs {x:V}{u:Value}(r:RelV x u):Uo u=some x:=by
 cases x with
 | non=>cases r;rfl
 | bl _=>cases r;rfl
 | int _=>obtain⟨t,rfl⟩:=r;rfl
 | str _=>obtain⟨t,rfl⟩:=r;rfl
 | Ud _=>obtain⟨t,rfl⟩:=r;rfl
 | flt _=>obtain⟨t,rfl⟩:=r;rfl
 | ref _=>cases r;rfl
 | ty _=>cases r;rfl
theorem RelV.inj {x y:V}{u:Value}(r:RelV x u)(q:RelV y u):x=y:=Option.some.inj (r.abs.symm.trans q.abs)
theorem Vals.inj:∀{xs ys:List V} {us:List Value},Vals xs us->Vals ys us->xs=ys
 | _,_,_,.nil,.nil=>rfl
 | _,_,_,.cons r t,.cons r' t'=>by rw[r.inj r',Vals.inj t t']
section
variable {X:Cx}{pins:List (Addr×Obj)}{σ:St}{H:Hp}{s:Shared}{a:Addr}{xs ys:List V}
theorem iV.of {K:Frag}(h:H a=some (.lst xs)):iV K H a xs:=.inl (.inl h)
theorem gz.of {K:Frag}(h:H a=some (.tup xs)):gz K H a xs:=.inl (.inl h)
theorem Inv.list (I:Inv X pins σ H s)(h:iV X.K H a xs):∃its:List Value,Vals xs its/\PlainL s.heap a its.toArray/\xs.length<=sizeLine:=by
 rcases h with h | ⟨o,its,n,hk,hc,hd,hs,hz,r⟩
 ·obtain⟨z,its,n,r,e⟩:=h.ok I.hok
  exact⟨its,r,⟨_,n,e,rfl,rfl,rfl⟩,z⟩
 ·refine⟨its.toList,r,⟨o,n,I.Ie a o hk,hc,hd,by simpa using hs⟩,?_⟩
  have e:=r.length
  simp only[Array.length_toList] at e
  omega
theorem Inv.tuple (I:Inv X pins σ H s)(h:gz X.K H a xs):∃its:List Value,Vals xs its/\IsTup s.heap a its.toArray/\xs.length<=sizeLine:=by
 rcases h with h | ⟨o,its,n,hk,hc,hs,hz,r⟩
 ·obtain⟨z,its,r,p⟩:=h.ok I.hok
  exact⟨its,r,p,z⟩
 ·refine⟨its.toList,r,⟨o,I.Ie a o hk,hc,n,by simpa using hs⟩,?_⟩
  have e:=r.length
  simp only[Array.length_toList] at e
  omega
theorem Inv.B9 (I:Inv X pins σ H s)(h:iV X.K H a xs)(h':iV X.K H a ys):xs=ys:=by
 obtain⟨its,r,⟨o,n,e,_,_,d⟩,_⟩:=I.list h
 obtain⟨its',r',⟨o',n',e',_,_,d'⟩,_⟩:=I.list h'
 rw[e] at e';cases e'
 rw[d] at d'
 injection d' with d1 _
 have:its=its':=by simpa using congrArg Array.toList d1
 subst this
 exact r.inj r'
theorem Inv.qY (I:Inv X pins σ H s)(h:gz X.K H a xs)(h':gz X.K H a ys):xs=ys:=by
 obtain⟨its,r,⟨o,e,_,n,d⟩,_⟩:=I.tuple h
 obtain⟨its',r',⟨o',e',_,n',d'⟩,_⟩:=I.tuple h'
 rw[e] at e';cases e'
 rw[d] at d'
 injection d' with d1 _
 have:its=its':=by simpa using congrArg Array.toList d1
 subst this
 exact r.inj r'
end
abbrev Cx.wish (X:Cx)(E:Jx):Cx:={X with xe:=E}
abbrev Cx.Kr (X:Cx):Cx:=X.wish λ_ _=>False
theorem Cx.Ok.wish {X:Cx}(ok:X.Ok)(E:Jx):(X.wish E).Ok :=
 ⟨ok.mod,ok.kind,ok.glob,ok.blt,ok.above,ok.inj,ok.has,ok.cab,ok.hd,ok.frames,ok.stk,ok.R8,ok.bs,ok.Ic,ok.Fb,ok.Fc,ok.pc,ok.Nm⟩
theorem Cx.Ok.kO {X:Cx}{E:Jx}(ok:(X.wish E).Ok):X.Ok :=
 ⟨ok.mod,ok.kind,ok.glob,ok.blt,ok.above,ok.inj,ok.has,ok.cab,ok.hd,ok.frames,ok.stk,ok.R8,ok.bs,ok.Ic,ok.Fb,ok.Fc,ok.pc,ok.Nm⟩
section
variable {X:Cx}{pins:List (Addr×Obj)}{σ:St}{H:Hp}{s:Shared}{E:Jx}
theorem Inv.wish (I:Inv X pins σ H s)(E:Jx):Inv (X.wish E) pins σ H s:=⟨I.ok.wish E,I.os,I.bare,I.base,I.loc,I.cell,I.free,I.mH,I.pin,I.hok,I.len⟩
theorem Inv.kO (I:Inv (X.wish E) pins σ H s):Inv X pins σ H s:=⟨I.ok.kO,I.os,I.bare,I.base,I.loc,I.cell,I.free,I.mH,I.pin,I.hok,I.len⟩
theorem SP.kO {D:Ends}{f:Flow}{s':Shared}(h:SP (X.wish E) pins D f s'):SP X pins D f s':=by
 cases f with
 | next=>obtain⟨σ',H',I,q⟩:=h;exact⟨σ',H',I.kO,q⟩
 | brk=>obtain⟨σ',H',I,q⟩:=h;exact⟨σ',H',I.kO,q⟩
 | cont=>obtain⟨σ',H',I,q⟩:=h;exact⟨σ',H',I.kO,q⟩
 | ret u=>obtain⟨v,σ',H',I,r,q⟩:=h;exact⟨v,σ',H',I.kO,r,q⟩
theorem PE.Kr {e:Expr}{t:TE}(h:PE X.Kr e t):PE X e t:=λpins s σ H Q I hw=>
 wpAny_mono (h pins s σ H Q (I.wish _) hw) (λ_ _ ⟨v,H',I',r,q⟩=>⟨v,H',I'.kO,r,q⟩) λ_ _ z=>False.elim z
theorem PT.Kr {e:Expr}{t:TT}(h:PT X.Kr e t):PT X e t:=λpins s σ H Q I hw=>
 wpAny_mono (h pins s σ H Q (I.wish _) hw) (λ_ _ ⟨H',I',q⟩=>⟨H',I'.kO,q⟩) λ_ _ z=>False.elim z
theorem xn.Kr {st:List Stmt}{t:TS}(h:xn X.Kr st t):xn X st t:=λpins s σ H D I hw=>
 wpAny_mono (h pins s σ H D (I.wish _) hw) (λ_ _ q=>q.kO) λ_ _ z=>False.elim z
end
section
variable {X:Cx}{st:Stmt}{rest:List Stmt}{t u:TS}{e:Expr}{te:TE}{pos:Pos}
def Sr:TS:=λD σ H=>D.nx σ H
def Up (t u:TS):TS:=λD σ H=>t {D with nx:=u D} σ H
theorem G2:xn X [] Sr:=λ_ _ σ H _ I h=>wpAny_execs_nil ⟨σ,H,I,h⟩
theorem uD (h1:PS X st t)(h2:xn X rest u):xn X (st :: rest) (Up t u):=by
 intro pins s σ H D I h
 refine wpAny_execs_cons (eQ (h1 pins s σ H {D with nx:=u D} I h) λf s1 q=> ?_)
 cases f with
 | next=>
  obtain⟨σ',H',I',q⟩:=q
  exact h2 pins s1 σ' H' D I' q
 | ret v=>exact q
 | brk=>exact q
 | cont=>exact q
theorem zk (h1:PS X st t):xn X [st] t:=by
 intro pins s σ H D I h
 refine wpAny_execs_cons (eQ (h1 pins s σ H D I h) λf s1 q=> ?_)
 cases f with
 | next=>exact wpAny_execs_nil q
 | ret v=>exact q
 | brk=>exact q
 | cont=>exact q
def Ss:TS:=λD σ H=>D.ct σ H
theorem B_:PS X (.Continue pos) Ss:=λ_ _ σ H _ I h=>wpAny_Continue ⟨σ,H,I,h⟩
theorem Inv.quiet {pins:List (Addr×Obj)}{σ:St}{H:Hp}{s:Shared}(I:Inv X pins σ H s):interactive X.env=false:=by simp[interactive,I.ok.kind]
def Su (te:TE):TS:=λD σ H=>te σ H λ_ H1=>D.nx σ H1
theorem pZ (he:PE X e te)(hs:swapsWith e none pos.line X.env=pure false:=by rfl):PS X (.Expr e pos) (Su te):=by
 intro pins s σ H D I h
 exact wpAny_Expr_any (eQ (he pins s σ H _ I h) λv s1 ⟨x,H1,I1,r1,q1⟩=>⟨σ,H1,I1,q1⟩) I.quiet hs
def Ur (te:TE):TS:=λD σ H=>te σ H D.rt
theorem Ks (he:PE X e te):PS X (.Return (some e) pos) (Ur te):=by
 intro pins s σ H D I h
 exact wpAny_Return_some (eQ (he pins s σ H _ I h) λv s1 ⟨x,H1,I1,r1,q1⟩=>⟨x,σ,H1,I1,r1,q1⟩)
def Us (c:TT)(t u:TS):TS:=λD σ H=>c σ H λb H1=>if b=true then t D σ H1 else u D σ H1
theorem Pm {c:Expr}{a b:List Stmt}{tc:TT}(hc:PT X c tc)(ha:xn X a t)(hb:xn X b u):PS X (.If c a b pos) (Us tc t u):=by
 intro pins s σ H D I h
 refine wpAny_If (eQ (hc pins s σ H _ I h) λd s1 ⟨H1,I1,q1⟩=> ?_)
 cases d with
 | true=>exact ha pins s1 σ H1 D I1 q1
 | false=>exact hb pins s1 σ H1 D I1 q1
def Qb:TS:=λ_ _ _=>False
theorem Kt:PS X st Qb:=λ_ _ _ _ _ _ h=>h.elim
end
abbrev TG:=V->St->Hp->(St->Hp->Prop)->Prop
abbrev Pn:=List V->St->Hp->(St->Hp->Prop)->Prop
def PG (X:Cx)(target:Expr)(t:TG):Prop :=
 ∀(pins:List (Addr×Obj)) (s:Shared) (σ:St) (H:Hp) (v:V) (u:Value) (Q:St->Hp->Prop),Inv X pins σ H s->RelV v u->t v σ H Q->
  wpAny (model X.prog X.w) X.A (assign target X.env u) (λ_ s'=>∃σ' H',Inv X pins σ' H' s'/\Q σ' H') X.xe s
def R9 (X:Cx)(ts:List Expr)(t:Pn):Prop :=
 ∀(pins:List (Addr×Obj)) (s:Shared) (σ:St) (H:Hp) (vs:List V) (us:List Value) (Q:St->Hp->Prop),Inv X pins σ H s->Vals vs us->t vs σ H Q->
  wpAny (model X.prog X.w) X.A (assignInOrder ((assignEach ts X.env).map (·.2)) us) (λ_ s'=>∃σ' H',Inv X pins σ' H' s'/\Q σ' H') X.xe s
abbrev Qc:=V->V->V->Hp->(Hp->Prop)->Prop
def Qd (X:Cx)(t:Qc):Prop :=
 ∀(pins:List (Addr×Obj)) (s:Shared) (σ:St) (H:Hp) (o i v:V) (ov iv u:Value) (Q:Hp->Prop),Inv X pins σ H s->RelV o ov->RelV i iv->RelV v u->t o i v H Q->
  wpAny (model X.prog X.w) X.A (setItem ov iv u) (λ_ s'=>∃H',Inv X pins σ H' s'/\Q H') X.xe s
section
variable {X:Cx}{pos:Pos}
def Ca (i:Nat):TG:=λv σ H Q=>Q (σ.set i (some v)) H
theorem cv {i:Nat}{x:Str}(hN:X.N.Nodup)(hi:X.N[i]? =some x)(hx:Loc X.env.scope x)(hf:X.fn x=true∨X.env.scope.names.lookup x=some .local:=by first | exact .inl rfl | exact .inr rfl | assumption):PG X (.Name x pos) (Ca i):=by
 intro pins s σ H v u Q I r h
 exact wpAny_assign_Name (B8 I hN hi hx r (λs' I'=>⟨_,H,I',h⟩) hf)
def Sv:Pn:=λvs σ H Q=>vs=[]/\Q σ H
def Po (t:TG)(u:Pn):Pn:=λvs σ H Q=>∃v r,vs=v :: r/\t v σ H λσ' H'=>u r σ' H' Q
theorem ky:R9 X [] Sv:=by
 intro pins s σ H vs us Q I r h
 obtain⟨e,h⟩:=h
 subst e
 cases r
 exact assignInOrder_nil ⟨σ,H,I,h⟩
theorem bY {e:Expr}{es:List Expr}{t:TG}{u:Pn}(h1:PG X e t)(h2:R9 X es u)
  (hs:(assignEach (e :: es) X.env).map (·.2)=assign e X.env :: (assignEach es X.env).map (·.2):=by rfl):R9 X (e :: es) (Po t u):=by
 intro pins s σ H vs us Q I r h
 obtain⟨v,vr,e1,h⟩:=h
 subst e1
 cases r with
 | cons r rr=>
  rw[hs]
  refine assignInOrder_cons (eQ (h1 pins s σ H _ _ _ I r h) λ_ s1 ⟨σ1,H1,I1,q1⟩=> ?_)
  exact h2 pins s1 σ1 H1 _ _ Q I1 rr q1
def Ut (K:Frag)(n:Nat)(t:Pn):TG:=λv σ H Q=>∃a xs,v= .ref a/\gz K H a xs/\xs.length=n/\t xs σ H Q
theorem KA {es:List Expr}{k:Nat}{t:Pn}{n:Nat}(hc:X.calm=true)(h:R9 X es t)
  (hn:(assignEach es X.env).length=n:=by rfl) (hst:(assignEach es X.env).findIdx? (·.1)=none:=by rfl):PG X (.Tuple es k pos) (Ut X.K n t):=by
 intro pins s σ H v u Q I r hw
 obtain⟨a,xs,e1,hq,hl,hw⟩:=hw
 subst e1
 cases r
 obtain⟨its,rv,ht,hz⟩:=I.tuple hq
 refine assign_Tuple_tuple (I.ok.hd hc) ht (by simp[hn,←hl,rv.length]) hst λh' hx=> ?_
 have I1:Inv X pins σ H {s with heap:=h'}:=I.kept (t':=s.toks) λb o e=>hx b o (X1 (KU e)) e
 exact h pins _ σ H xs _ Q I1 (by simpa using rv) hw
def xo (to ti:TE)(t:Qc):TG:=λv σ H Q=>to σ H λo H1=>ti σ H1 λi H2=>t o i v H2 λH3=>Q σ H3
theorem Fe {o i:Expr}{to ti:TE}{t:Qc}(ho:PE X o to)(hi:PE X i ti)(hs:Qd X t)
  (ha:∀v,assign (.Subscript o i pos) X.env v=(do
   let ov←holding [v] (eval o X.env)
   let iv←holding [v,ov] (eval i X.env)
   standAt pos
   holding [v,ov,iv] (setItem ov iv v)
   release [v,ov,iv] []):=by intro _;rfl):PG X (.Subscript o i pos) (xo to ti t):=by
 intro pins s σ H v u Q I r h
 rw[ha]
 refine J8 (J2 (eQ (ho pins s σ H _ I h) λov s1 ⟨x,H1,I1,r1,q1⟩=> ?_))
 refine J8 (J2 (eQ (hi pins s1 σ H1 _ I1 q1) λiv s2 ⟨y,H2,I2,r2,q2⟩=> ?_))
 refine J8 (wpAny_standAt (J8 (J2 (eQ (hs pins s2 σ H2 x y v ov iv u _ I2 r1 r2 r q2) λ_ s3 ⟨H3,I3,q3⟩=> ?_))))
 exact wpAny_release ⟨σ,H3,I3,q3⟩
def Qe (te:TE)(g:TG):TS:=λD σ H=>te σ H λx H1=>g x σ H1 D.nx
theorem zl {tg e:Expr}{te:TE}{g:TG}(he:PE X e te)(hg:PG X tg g)(hs:swapsWithSole [tg] e pos.line X.env=pure false:=by rfl)(hw:swappedStores [tg] e X.env=pure none:=by rfl)
  (h1:(assignEach [tg] X.env).map (·.2)=[assign tg X.env]:=by rfl):PS X (.Assign [tg] e pos) (Qe te g):=by
 intro pins s σ H D I h
 refine wpAny_Assign_stores (eQ (he pins s σ H _ I h) λv s1 ⟨x,H1,I1,r1,q1⟩=> ?_) hs hw
 rw[h1]
 exact eQ (hg pins s1 σ H1 x v _ I1 r1 q1) λ_ s2 q=>q
theorem Ff {i:Nat}{x:Str}{e:Expr}{te:TE}{pos':Pos}(hN:X.N.Nodup)(hi:X.N[i]? =some x)(hx:Loc X.env.scope x)(he:PE X e te)(hs:swapsWith e (some (.Name x pos')) pos.line X.env=pure false:=by rfl)(hf:X.fn x=true∨X.env.scope.names.lookup x=some .local:=by first | exact .inl rfl | exact .inr rfl | assumption) :
  PS X (.Assign [.Name x pos'] e pos) (Qe te (Ca i)):=by
 intro pins s σ H D I h
 refine wpAny_Assign_Name (eQ (he pins s σ H _ I h) λv s1 ⟨y,H1,I1,r1,q1⟩=> ?_) hs
 exact B8 I1 hN hi hx r1 (λs2 I2=>⟨_,H1,I2,q1⟩) hf
end
section
variable {X:Cx}{pos:Pos}
def Qf (c:TT)(tb:TS):TS:=λD σ H=>∃W:Nat->St->Hp->Prop,(∃m,W m σ H)/\∀m σ H,W m σ H->
 c σ H λb H1=>if b=true then∃N:St->Hp->Prop,(∀σ' H',N σ' H'->∃m',m' < m/\W m' σ' H')/\tb {D with nx:=N,ct:=N,bk:=D.nx} σ H1 else D.nx σ H1
theorem KC {c:Expr}{body:List Stmt}{tc:TT}{tb:TS}(hp:PassesOwn (model X.prog X.w) X.A X.env X.xe)(hc:PT X c tc)(hb:xn X body tb):PS X (.While c body [] pos) (Qf tc tb):=by
 intro pins s σ H D I h
 obtain⟨W,⟨m0,w0⟩,turn⟩:=h
 refine wpAny_While (codeAny_whileLoop (λn s'=>∃σ' H',Inv X pins σ' H' s'/\W n σ' H') ?_ m0 ⟨σ,H,I,w0⟩)
 rintro n s1 ⟨σ1,H1,I1,w1⟩
 refine wpAny_passesOwn hp (eQ (hc pins s1 σ1 H1 _ I1 (turn n σ1 H1 w1)) λb s2 ⟨H2,I2,q2⟩=> ?_)
 cases b with
 | true=>
  obtain⟨N,hN,q2⟩:=q2
  rw[J5 rfl]
  refine wpAny_passesOwn hp (eQ (hb pins s2 σ1 H2 _ I2 q2) λf s3 q3=> ?_)
  cases f with
  | next=>
   obtain⟨σ3,H3,I3,n3⟩:=q3
   obtain⟨m',hm,w3⟩:=hN σ3 H3 n3
   exact⟨m',hm,σ3,H3,I3,w3⟩
  | cont=>
   obtain⟨σ3,H3,I3,n3⟩:=q3
   obtain⟨m',hm,w3⟩:=hN σ3 H3 n3
   exact⟨m',hm,σ3,H3,I3,w3⟩
  | brk=>exact q3
  | ret v=>exact q3
 | false=>
  rw[J6 K3]
  exact wpAny_execs_nil ⟨σ1,H2,I2,q2⟩
end
structure It where
 go:Nat->Hp->Prop
 Sw:Nat->Hp->V->Hp->Prop
 stop:Nat->Hp->Prop
def uE (X:Cx)(pins:List (Addr×Obj))(H:Hp)(b:Addr):Prop :=
 H b=none/\b≠X.env.locals/\b∉X.fs/\(b∈X.ex∨X.s₀.heap.objs.size<=b)/\(∀x c,X.env.cells.lookup x=some c->c≠b)/\∀p∈X.pn++pins,p.1≠b
theorem Inv.sF {X:Cx}{pins:List (Addr×Obj)}{σ:St}{H H':Hp}{s:Shared}{b:Addr}(I:Inv X pins σ H s)(hb:s.heap.objs.size<=b)(hn:H' b=none):uE X pins H' b:=by
 refine⟨hn,UU (X4 I.lt hb),I.Uh hb,.inr (Kq I.sz hb),λx c e z=> ?_,λp hp z=> ?_⟩
 ·obtain⟨v,q⟩:=I.cell x c e
  exact absurd (X4 q.lt (by rw[z];exact hb)) (XJ _)
 ·exact absurd (X4 (KU (I.pin p hp).1) (by rw[z];exact hb)) (XJ _)
structure Turn (P:Program)(w:World)(K:Frag)(tg:Expr)(J:It)(fp:List Addr)(it:Addr)(tn:Nat->Heap->Prop):Prop where
 mem:it∈fp
 obj:∀i h,tn i h->∀b∈fp,∃o,h.get? b=some o/\∀v,o.data≠ .cell v
 keep:∀i h h',tn i h->(∀b∈fp,∀o,h.get? b=some o->h'.get? b=some o)->tn i h'
 item:∀(X:Cx),X.prog=P->X.w=w->X.K=K->X.calm=true->∀(i:Nat) (pins:List (Addr×Obj)) (s:Shared) (σ:St) (H:Hp) (E:Jx),Inv X pins σ H s->(∀b∈fp,uE X pins H b)->tn i s.heap->J.go i H->
  wpAny (model P w) X.A (pyNext (.ref it)) (λr s1=>∃u,r=some u/\
   wpAny (model P w) X.A (letOwnedTupleGo tg (.ref it) u) (λ_ s2=>∃x H',Inv X pins σ H' s2/\RelV x u/\J.Sw i H x H'/\tn (i+1) s2.heap/\∀b∈fp,H' b=none) E s1) E s
 done:∀(X:Cx),X.prog=P->X.w=w->X.K=K->X.calm=true->∀(i:Nat) (pins:List (Addr×Obj)) (s:Shared) (σ:St) (H:Hp) (E:Jx),Inv X pins σ H s->(∀b∈fp,uE X pins H b)->tn i s.heap->J.stop i H->
  wpAny (model P w) X.A (pyNext (.ref it)) (λr s1=>r=none/\Inv X pins σ H s1) E s
 self:∀(A:Around) (i:Nat) (s:Shared) (Q:Jx) (E:Jx),tn i s.heap->Q (.ref it) s->wpAny (model P w) A (pyIter (.ref it)) Q E s
abbrev TI:=St->Hp->(It->Hp->Prop)->Prop
def PIE (X:Cx)(pins:List (Addr×Obj))(σ:St)(tg:Expr)(R:It->Hp->Prop)(itv:Value)(s2:Shared):Prop :=
 ∃(it:Addr) (fp:List Addr) (tn:Nat->Heap->Prop) (J:It) (H':Hp),itv= .ref it/\Inv X pins σ H' s2/\Turn X.prog X.w X.K tg J fp it tn/\tn 0 s2.heap/\(∀b∈fp,uE X pins H' b)/\R J H'
def PI (X:Cx)(tg iter:Expr)(wi:TI):Prop :=
 ∀(pins:List (Addr×Obj)) (s:Shared) (σ:St) (H:Hp) (R:It->Hp->Prop),Inv X pins σ H s->wi σ H R->
  wpAny (model X.prog X.w) X.A (eval iter X.env) (λv s1=>wpAny (model X.prog X.w) X.A (pyIter v) (PIE X pins σ tg R) X.xe s1) X.xe s
theorem G3 {M:Model}{A:Around}{E:Jx}{s:Shared}{tg:Expr}{it:Addr}{u:Value}{o:Obj}{n:String}{vs:Array Value}{Q:Unit->Shared->Prop}(ho:s.heap.get? it=some o)(hc:o.cls= .type n)(hd:o.data= .fields vs)
  (hn:["enumerate","zip","dict_itemiterator","dict_reverseitemiterator","odict_iterator","itertools.zip_longest","itertools.pairwise"].contains n=false) (hQ:Q () s):wpAny M A (letOwnedTupleGo tg (.ref it) u) Q E s:=by
 unfold letOwnedTupleGo
 cases tg <;> first
  | exact J7 hQ
  | (cases u <;> first
    | exact J7 hQ
    | (
      refine J8 (wpAny_load ho ?_)
      rw[hc,hd]
      show wpAny M A (if (["enumerate","zip","dict_itemiterator","dict_reverseitemiterator","odict_iterator","itertools.zip_longest","itertools.pairwise"].contains n && vs[0]? ==some (rawInt _))=true then _ else _) Q E s
      rw[J6 (by intro h;rw[hn,Y9] at h;cases h)]
      exact J7 hQ))
def UA (K:Frag)(a:Addr):It :=
 ⟨λi H=>∃xs x,iV K H a xs/\xs[i]? =some x,λi H x H'=>H'=H/\∀xs,iV K H a xs->xs[i]? =some x,λi H=>∃xs,iV K H a xs/\xs.length<=i⟩
def UB (K:Frag)(a:Addr):It :=
 ⟨λi H=>∃xs x,gz K H a xs/\xs[i]? =some x,λi H x H'=>H'=H/\∀xs,gz K H a xs->xs[i]? =some x,λi H=>∃xs,gz K H a xs/\xs.length<=i⟩
def TU (lo:Int)(n:Nat):It:=⟨λi _=>i < n,λi H x H'=>H'=H/\x= .int (lo+i),λi _=>n<=i⟩
theorem Ig {P:Program}{w:World}{K:Frag}{tg:Expr}(a it:Addr):Turn P w K tg (UA K a) [it] it (λi h=>h.IsListIter it a i) where
 mem:=by simp
 obj:=λi h st b hb=>by
  have e:b=it:=by simpa using hb
  subst e
  obtain⟨o,e,c,d⟩:=st
  exact⟨o,e,λv z=>by rw[d] at z;cases z⟩
 keep:=λi h h' st k=>st.at λo e=>k it (by simp) o e
 item:=by
  intro X hP hw hK hc i pins s σ H E I hf st hg
  subst hP hw hK
  obtain⟨xs,x,hq,hx⟩:=hg
  obtain⟨its,rv,p,hz⟩:=I.list hq
  obtain⟨u,hu,ru⟩:=rv.get hx
  obtain⟨f0,f1,f2,f3,f4,f5⟩:=hf it (by simp)
  refine wpAny_pyNext_list_item st p.isList (x:=u) (by simpa using hu) λh' st' sb=> ?_
  have I1:Inv X pins σ H {s with heap:=h'}:=I.turned (t':=s.toks) (λb o hb e=>(sb.2 b hb).trans e) f0 f1 f3 f4 f5
  obtain⟨o,e,c,d⟩:=id st'
  exact⟨u,rfl,G3 (s:={s with heap:=h'}) e c d (by decide) ⟨x,H,I1,ru,⟨rfl,λys hy=>by rw[I.B9 hy hq];exact hx⟩,st',λb hb=>(hf b hb).1⟩⟩
 done:=by
  intro X hP hw hK hc i pins s σ H E I hf st hg
  subst hP hw hK
  obtain⟨xs,hq,hx⟩:=hg
  obtain⟨its,rv,p,hz⟩:=I.list hq
  obtain⟨f0,f1,f2,f3,f4,f5⟩:=hf it (by simp)
  have hl:=rv.length
  exact wpAny_pyNext_list_end (I.ok.hd hc) st p.isList (by simp;omega) λh' eb=>⟨rfl,I.turned (t':=s.toks) (λb o hb e=>eb b o hb e) f0 f1 f3 f4 f5⟩
 self:=λ_ _ _ _ _ st h=>wpAny_pyIter_listiter st h
theorem Fg {P:Program}{w:World}{K:Frag}{tg:Expr}(a it:Addr):Turn P w K tg (UB K a) [it] it (λi h=>h.IsTupleIter it a i) where
 mem:=by simp
 obj:=λi h st b hb=>by
  have e:b=it:=by simpa using hb
  subst e
  obtain⟨o,e,c,d⟩:=st
  exact⟨o,e,λv z=>by rw[d] at z;cases z⟩
 keep:=λi h h' st k=>st.at λo e=>k it (by simp) o e
 item:=by
  intro X hP hw hK hc i pins s σ H E I hf st hg
  subst hP hw hK
  obtain⟨xs,x,hq,hx⟩:=hg
  obtain⟨its,rv,p,hz⟩:=I.tuple hq
  obtain⟨u,hu,ru⟩:=rv.get hx
  obtain⟨f0,f1,f2,f3,f4,f5⟩:=hf it (by simp)
  refine wpAny_pyNext_tuple_item st (show s.heap.IsTuple a its.toArray from p) (x:=u) (by simpa using hu) λh' st' sb=> ?_
  have I1:Inv X pins σ H {s with heap:=h'}:=I.turned (t':=s.toks) (λb o hb e=>(sb.2 b hb).trans e) f0 f1 f3 f4 f5
  obtain⟨o,e,c,d⟩:=id st'
  exact⟨u,rfl,G3 (s:={s with heap:=h'}) e c d (by decide) ⟨x,H,I1,ru,⟨rfl,λys hy=>by rw[I.qY hy hq];exact hx⟩,st',λb hb=>(hf b hb).1⟩⟩
 done:=by
  intro X hP hw hK hc i pins s σ H E I hf st hg
  subst hP hw hK
  obtain⟨xs,hq,hx⟩:=hg
  obtain⟨its,rv,p,hz⟩:=I.tuple hq
  obtain⟨f0,f1,f2,f3,f4,f5⟩:=hf it (by simp)
  have hl:=rv.length
  exact wpAny_pyNext_tuple_end (I.ok.hd hc) st (show s.heap.IsTuple a its.toArray from p) (by simp;omega) λh' eb=>⟨rfl,I.turned (t':=s.toks) (λb o hb e=>eb b o hb e) f0 f1 f3 f4 f5⟩
 self:=λ_ _ _ _ _ st h=>wpAny_pyIter_tupleiter st h
theorem Fh {P:Program}{w:World}{K:Frag}{tg:Expr}(it:Addr)(lo:Int)(n:Nat):Turn P w K tg (TU lo n) [it] it (λi h=>IsRangeIter h it (lo+(i:Nat)*1) ((n:Int) - (i:Nat)) 1) where
 mem:=by simp
 obj:=λi h st b hb=>by
  have e:b=it:=by simpa using hb
  subst e
  exact⟨_,st,λv z=>by
   have z':Data.fields _=Data.cell v:=z
   cases z'⟩
 keep:=λi h h' st k=>k it (by simp) _ st
 item:=by
  intro X hP hw hK hc i pins s σ H E I hf st hg
  subst hP hw hK
  obtain⟨f0,f1,f2,f3,f4,f5⟩:=hf it (by simp)
  have W:=Walks.range (prog:=X.prog) (w:=X.w) (I.ok.hd hc) it lo 1 n
  refine W.item i s _ _ hg st λv h' tk hv st' kk=> ?_
  obtain⟨t,rfl⟩:=hv
  have I1:Inv X pins σ H {s with heap:=h',toks:=tk}:=I.turned (λb o hb e=>kk b o (by simpa using hb) e) f0 f1 f3 f4 f5
  refine⟨_,rfl,G3 (s:={s with heap:=h',toks:=tk}) (n:="range_iterator") st' rfl rfl (by decide) ⟨.int (lo+i),H,I1,⟨t,?_⟩,⟨rfl,rfl⟩,st',λb hb=>(hf b hb).1⟩⟩
  rw[Int.mul_one]
 done:=by
  intro X hP hw hK hc i pins s σ H E I hf st hg
  subst hP hw hK
  obtain⟨f0,f1,f2,f3,f4,f5⟩:=hf it (by simp)
  exact wpAny_pyNext_range_end (I.ok.hd hc) st (by have:n<=i:=hg;omega) λh' eb=>⟨rfl,I.turned (t':=s.toks) (λb o hb e=>eb b o hb e) f0 f1 f3 f4 f5⟩
 self:=λ_ _ _ _ _ st h=>wpAny_pyIter_rangeiter st h
section
variable {X:Cx}{tg:Expr}
def Sx (K:Frag)(tl:TE):TI:=λσ H R=>tl σ H λx H1=>∃a,x= .ref a/\(∃xs,iV K H1 a xs)/\R (UA K a) H1
def UC (K:Frag)(tl:TE):TI:=λσ H R=>tl σ H λx H1=>∃a,x= .ref a/\(∃xs,gz K H1 a xs)/\R (UB K a) H1
theorem G4 {l:Expr}{tl:TE}(hl:PE X l tl):PI X tg l (Sx X.K tl):=by
 intro pins s σ H R I h
 refine eQ (hl pins s σ H _ I h) λv s1 ⟨x,H1,I1,r1,q1⟩=> ?_
 obtain⟨a,e,⟨xs,hq⟩,q⟩:=q1
 subst e
 cases r1
 obtain⟨its,rv,p,hz⟩:=I1.list hq
 refine wpAny_pyIter_list p.isList ?_
 refine⟨s1.heap.objs.size,[s1.heap.objs.size],_,_,H1,rfl,I1.kept (t':=s1.toks) λb o e=>K6 _ e,Ig a _,⟨_,Kz _ rfl,rfl,rfl⟩,λb hb=> ?_,q⟩
 have e:b=s1.heap.objs.size:=by simpa using hb
 subst e
 exact I1.sF (Ku _) (I1.hok.fresh (Ku _))
theorem Qg {l:Expr}{tl:TE}(hl:PE X l tl):PI X tg l (UC X.K tl):=by
 intro pins s σ H R I h
 refine eQ (hl pins s σ H _ I h) λv s1 ⟨x,H1,I1,r1,q1⟩=> ?_
 obtain⟨a,e,⟨xs,hq⟩,q⟩:=q1
 subst e
 cases r1
 obtain⟨its,rv,p,hz⟩:=I1.tuple hq
 refine wpAny_pyIter_tuple (show s1.heap.IsTuple a its.toArray from p) ?_
 refine⟨s1.heap.objs.size,[s1.heap.objs.size],_,_,H1,rfl,I1.kept (t':=s1.toks) λb o e=>K6 _ e,Fg a _,⟨_,Kz _ rfl,rfl,rfl⟩,λb hb=> ?_,q⟩
 have e:b=s1.heap.objs.size:=by simpa using hb
 subst e
 exact I1.sF (Ku _) (I1.hok.fresh (Ku _))
theorem KD {pins:List (Addr×Obj)}{σ:St}{H:Hp}{s:Shared}{R:It->Hp->Prop}{E:Jx}{lo hi:Int}{t u v:Tok}{tk:Nat}(I:Inv X pins σ H s)(h1:-(2^62)<=lo)(h2:lo < 2^62)(h3:-(2^62)<=hi)(h4:hi < 2^62)
  (q:R (TU lo (hi - lo).toNat) H):wpAny (model X.prog X.w) X.A (pyIter (.ref s.heap.objs.size)) (PIE X pins σ tg R) E {s with heap:=s.heap.push {cls:=.type "range",data:=.fields #[.int lo t,.int hi u,.int 1 v]},toks:=tk}:=by
 refine wpAny_pyIter_range (IsRange.new ..) (small_one h1 h2 h3 h4) ?_
 have I1:Inv X pins σ H {s with heap:=s.heap.push {cls:=.type "range",data:=.fields #[.int lo t,.int hi u,.int 1 v]},toks:=tk}:=I.kept λb o e=>K6 _ e
 refine⟨(s.heap.push {cls:=.type "range",data:=.fields #[.int lo t,.int hi u,.int 1 v]}).objs.size,[(s.heap.push {cls:=.type "range",data:=.fields #[.int lo t,.int hi u,.int 1 v]}).objs.size],_,_,H,rfl,
  I1.kept (t':=tk) λb o e=>K6 _ e,Fh _ lo (hi - lo).toNat,?_,λb hb=> ?_,q⟩
 ·have e1:lo+((0:Nat):Int)*1=lo:=by simp
  have e2:(((hi - lo).toNat:Nat):Int) - ((0:Nat):Int)=Builtin.Range.rangeSize lo hi 1:=by rw[rangeSize_one];split <;> omega
  show IsRangeIter _ _ (lo+((0:Nat):Int)*1) ((((hi - lo).toNat:Nat):Int) - ((0:Nat):Int)) 1
  rw[e1,e2]
  exact Kz _ rfl
 ·have e:b=(s.heap.push {cls:=.type "range",data:=.fields #[.int lo t,.int hi u,.int 1 v]}).objs.size:=by simpa using hb
  subst e
  exact I1.sF (Ku _) (I1.hok.fresh (Ku _))
def Sy (ta:TA):TI:=λσ H R=>ta σ H λvs H1=>∃j:Int,vs=[.int j]/\ -(2^62)<=j/\j < 2^62/\R (TU 0 j.toNat) H1
theorem Ih {a:Expr}{ta:TA}{p pos:Pos}(hg:Gl X "range")(hm:X.mg "range" =none)(ha:PA X [a] ta)(hs:starEach [a] X.env=[(false,eval a X.env)]:=by rfl):PI X tg (.Call (.Name "range" p) [a] [] pos) (Sy ta):=by
 intro pins s σ H R I h
 refine Call_ (gS I hg hm boot_range (PyProof.Rows.callWith_type1 (eQ (ha pos pins s σ H _ I h) λus s1 ⟨vs,H1,I1,r1,q1⟩=> ?_) hs rfl))
 obtain⟨j,e,q1,q2,q⟩:=q1
 subst e
 cases r1 with
 | cons r rr=>
  cases rr
  obtain⟨t,rfl⟩:=r
  exact call_range_1 (KD I1 (by omega) (by omega) q1 q2 (by simpa using q))
def UD (wi:TI)(g:TG)(tb:TS):TS:=λD σ H=>wi σ H λJ H1=>∃W:Nat->Nat->St->Hp->Prop,(∃m,W 0 m σ H1)/\∀i m σ H,W i m σ H->
 (J.stop i H/\D.nx σ H)∨(J.go i H/\∃N:St->Hp->Prop,(∀σ' H',N σ' H'->∃m',m' < m/\W (i+1) m' σ' H')/\∀x H',J.Sw i H x H'->g x σ H' λσ2 H2=>tb {D with nx:=N,ct:=N,bk:=D.nx} σ2 H2)
def uF (fp:List Addr)(h:Heap):List (Addr×Obj):=fp.filterMap λb=>(h.get? b).map λo=>(b,o)
theorem lQ {fp:List Addr}{h:Heap}{b:Addr}{o:Obj}(hb:b∈fp)(e:h.get? b=some o):(b,o)∈uF fp h:=List.mem_filterMap.mpr ⟨b,hb,by rw[e];rfl⟩
theorem Ii {fp:List Addr}{h:Heap}{p:Addr×Obj}(hp:p∈uF fp h):p.1∈fp/\h.get? p.1=some p.2:=by
 obtain⟨b,hb,e⟩:=List.mem_filterMap.mp hp
 cases q:h.get? b with
 | none=>rw[q] at e;cases e
 | some o=>
  rw[q] at e
  have e':(b,o)=p:=Option.some.inj e
  subst e'
  exact⟨hb,q⟩
theorem Inv.pinned {pins:List (Addr×Obj)}{σ:St}{H:Hp}{s:Shared}{fp:List Addr}(I:Inv X pins σ H s)(hf:∀b∈fp,uE X pins H b)(ho:∀b∈fp,∃o,s.heap.get? b=some o/\∀v,o.data≠ .cell v):Inv X (pins++uF fp s.heap) σ H s :=
 I.G0 λp hp=>(Kk.mp hp).elim (λz=>I.pin p (K1 _ z)) λz=>by
  obtain⟨hb,e⟩:=Ii z
  obtain⟨f0,f1,f2,_⟩:=hf p.1 hb
  obtain⟨o,e',d⟩:=ho p.1 hb
  rw[e] at e';cases e'
  exact⟨e,f0,f1,f2,d⟩
theorem Inv.p0 {pins pl:List (Addr×Obj)}{σ:St}{H:Hp}{s:Shared}(I:Inv X (pins++pl) σ H s):Inv X pins σ H s:=I.G0 λp hp=>I.pin p (K1 _ (KY _ hp))
theorem Fi {iter:Expr}{body:List Stmt}{wi:TI}{g:TG}{tb:TS}{pos:Pos}(hp:PassesOwn (model X.prog X.w) X.A X.env X.xe)(hc:X.calm=true)(hi:PI X tg iter wi)(hg:PG X tg g)(hb:xn X body tb)
  (hs:∀x,foldedSetIterable iter X.env x=pure x:=by intro _;rfl):PS X (.For tg iter body [] pos) (UD wi g tb):=by
 intro pins s σ H D I h
 refine wpAny_For (eQ (hi pins s σ H _ I h) λv s1 h1=>eQ h1 λitv s2 h2=> ?_) hs
 obtain⟨it,fp,tn,J,H2,e,I2,T,st2,f2,W,⟨m0,w0⟩,turn⟩:=h2
 subst e
 have stat:∀{H':Hp},(∀b∈fp,H' b=none)->∀b∈fp,uE X pins H' b:=λhn b hb=>⟨hn b hb,(f2 b hb).2⟩
 refine codeAny_forLoop_any (λn s'=>∃i σ' H',Inv X pins σ' H' s'/\tn i s'.heap/\(∀b∈fp,H' b=none)/\W i n σ' H') ?_ m0 ⟨0,σ,H2,I2,st2,λb hb=>(f2 b hb).1,w0⟩
 rintro n s3 ⟨i,σ3,H3,I3,st3,Sz,w3⟩
 rcases turn i n σ3 H3 w3 with⟨stop,qn⟩ | ⟨go,N,hN,step⟩
 ·refine wpAny_passesOwn hp (eQ (T.done X rfl rfl rfl hc i pins s3 σ3 H3 X.xe I3 (stat Sz) st3 stop) λr s4 ⟨hr,I4⟩=> ?_)
  subst hr
  exact wpAny_execs_nil ⟨σ3,H3,I4,qn⟩
 ·refine wpAny_passesOwn hp (eQ (T.item X rfl rfl rfl hc i pins s3 σ3 H3 X.xe I3 (stat Sz) st3 go) λr s4 ⟨u,hr,h4⟩=> ?_)
  subst hr
  refine wpAny_passesOwn hp (eQ h4 λ_ s5 ⟨x,H5,I5,r5,y5,Qh,UE⟩=> ?_)
  have UG:=I5.pinned (stat UE) (T.obj _ _ Qh)
  refine wpAny_passesOwn hp (eQ (hg _ s5 σ3 H5 x u _ UG r5 (step x H5 y5)) λ_ s6 ⟨σ6,H6,I6,q6⟩=> ?_)
  refine wpAny_passesOwn hp (eQ (hb _ s6 σ6 H6 _ I6 q6) λf s7 q7=> ?_)
  have again:∀{σ7:St} {H7:Hp},Inv X (pins++uF fp s5.heap) σ7 H7 s7->N σ7 H7->∃m,m < n/\∃i σ' H',Inv X pins σ' H' s7/\tn i s7.heap/\(∀b∈fp,H' b=none)/\W i m σ' H':=λ{σ7 H7} I7 n7=>by
   obtain⟨m',hm,w7⟩:=hN σ7 H7 n7
   refine⟨m',hm,i+1,σ7,H7,I7.p0,T.keep _ _ _ Qh λb hb o e=>(I7.pin (b,o) (K1 _ (K1 _ (lQ hb e)))).1,λb hb=> ?_,w7⟩
   obtain⟨o,e,d⟩:=T.obj _ _ Qh b hb
   exact(I7.pin (b,o) (K1 _ (K1 _ (lQ hb e)))).2.1
  cases f with
  | next=>obtain⟨σ7,H7,I7,n7⟩:=q7;exact again I7 n7
  | cont=>obtain⟨σ7,H7,I7,n7⟩:=q7;exact again I7 n7
  | brk=>obtain⟨σ7,H7,I7,q7⟩:=q7;exact⟨σ7,H7,I7.p0,q7⟩
  | ret v=>obtain⟨x7,σ7,H7,I7,r7,q7⟩:=q7;exact⟨x7,σ7,H7,I7.p0,r7,q7⟩
end
abbrev R2:=V->V->Hp->VK->Prop
def qW (X:Cx)(f:Value->Value->Sem Value)(r:R2):Prop :=
 ∀(pins:List (Addr×Obj)) (s:Shared) (σ:St) (H:Hp) (x y:V) (v u:Value) (Q:VK),Inv X pins σ H s->RelV x v->RelV y u->r x y H Q->
  wpAny (model X.prog X.w) X.A (f v u) (EP X pins σ Q) X.xe s
def TV (X:Cx)(f:Value->Sem Value)(r:V->Hp->VK->Prop):Prop :=
 ∀(pins:List (Addr×Obj)) (s:Shared) (σ:St) (H:Hp) (x:V) (v:Value) (Q:VK),Inv X pins σ H s->RelV x v->r x H Q->
  wpAny (model X.prog X.w) X.A (f v) (EP X pins σ Q) X.xe s
def kz (X:Cx)(f:Value)(r:List V->Hp->VK->Prop):Prop :=
 ∀(pins:List (Addr×Obj)) (s:Shared) (σ:St) (H:Hp) (xs:List V) (us:List Value) (Q:VK),Inv X pins σ H s->Vals xs us->r xs H Q->
  wpAny (model X.prog X.w) X.A (call f us) (EP X pins σ Q) X.xe s
def TX (r:R2)(ta tb:TE):TE:=λσ H Q=>ta σ H λx H1=>tb σ H1 λy H2=>r x y H2 Q
def WH (r:V->Hp->VK->Prop)(ta:TE):TE:=λσ H Q=>ta σ H λx H1=>r x H1 Q
def rI (C:Int->Int->Prop)(g:Int->Int->V):R2:=λx y H Q=>∃i j,x= .int i/\y= .int j/\C i j/\Q (g i j) H
def Nx (g:Int->Int->V):R2:=λx y H Q=>∃i j,x= .int i/\y= .int j/\Q (g i j) H
def rU (g:Int->V):V->Hp->VK->Prop:=λx H Q=>∃i,x= .int i/\Q (g i) H
section
variable {X:Cx}{a b c:Expr}{ta tb tc:TE}{pos:Pos}
theorem Qi (ha:PE X a ta)(hb:PE X b tb){pins:List (Addr×Obj)}{s:Shared}{σ:St}{H:Hp}{R:V->V->Hp->Prop}(I:Inv X pins σ H s)
  (h:ta σ H λx H1=>tb σ H1 λy H2=>R x y H2) {Q:Jx} {f:Value->Value->Sem Value}
  (hf:∀v u s2 x y H2,Inv X pins σ H2 s2->RelV x v->RelV y u->R x y H2->wpAny (model X.prog X.w) X.A (f v u) Q X.xe s2) :
  wpAny (model X.prog X.w) X.A (eval a X.env) (λv s₁=>wpAny (model X.prog X.w) X.A (eval b X.env) (λu s₂=>wpAny (model X.prog X.w) X.A (f v u) Q X.xe s₂) X.xe s₁) X.xe s:=by
 refine eQ (ha pins s σ H _ I h) λv s1 ⟨x,H1,I1,r1,q1⟩=> ?_
 refine eQ (hb pins s1 σ H1 _ I1 q1) λu s2 ⟨y,H2,I2,r2,q2⟩=> ?_
 exact hf v u s2 x y H2 I2 r1 r2 q2
theorem Pp {op:Operator}{r:R2}(ho:qW X (binaryOp op) r)(ha:PE X a ta)(hb:PE X b tb):PE X (.BinOp a op b pos) (TX r ta tb):=by
 intro pins s σ H Q I h
 exact wpAny_BinOp (Qi ha hb I h λv u s2 x y H2 I2 rx ry q=>ho pins s2 σ H2 x y v u Q I2 rx ry q)
theorem SA {op:UnaryOp}{r:V->Hp->VK->Prop}(ho:TV X (unaryOp op) r)(ha:PE X a ta):PE X (.UnaryOp op a pos) (WH r ta):=by
 intro pins s σ H Q I h
 exact UnaryOp_ (eQ (ha pins s σ H _ I h) λv s1 ⟨x,H1,I1,r1,q1⟩=>ho pins s1 σ H1 x v Q I1 r1 q1)
theorem UH {f:Value->Value->Sem Value}{C:Int->Int->Prop}{g:Int->Int->Int}
  (rule:∀(i j:Int) (t u:Tok) (s:Shared) (Q:Jx) (E:Jx),C i j->Q (.int (g i j) s.toks) {s with toks:=s.toks+1}->wpAny (model X.prog X.w) X.A (f (.int i t) (.int j u)) Q E s) :
  qW X f (rI C λi j=> .int (g i j)):=by
 intro pins s σ H x y v u Q I rx ry h
 obtain⟨i,j,rfl,rfl,hc,q⟩:=h
 obtain⟨t,rfl⟩:=rx
 obtain⟨t',rfl⟩:=ry
 exact rule i j t t' s _ _ hc ⟨.int (g i j),H,I.tok _,⟨_,rfl⟩,q⟩
theorem SD {f:Value->Value->Sem Value}{g:Int->Int->Int}
  (rule:∀(i j:Int) (t u:Tok) (s:Shared) (Q:Jx) (E:Jx),Q (.int (g i j) s.toks) {s with toks:=s.toks+1}->wpAny (model X.prog X.w) X.A (f (.int i t) (.int j u)) Q E s) :
  qW X f (Nx λi j=> .int (g i j)):=by
 intro pins s σ H x y v u Q I rx ry h
 obtain⟨i,j,rfl,rfl,q⟩:=h
 obtain⟨t,rfl⟩:=rx
 obtain⟨t',rfl⟩:=ry
 exact rule i j t t' s _ _ ⟨.int (g i j),H,I.tok _,⟨_,rfl⟩,q⟩
theorem Ny {f:Value->Value->Sem Value}{g:Int->Int->Bool}
  (rule:∀(i j:Int) (t u:Tok) (s:Shared) (Q:Jx) (E:Jx),Q (.bool (g i j)) s->wpAny (model X.prog X.w) X.A (f (.int i t) (.int j u)) Q E s) :
  qW X f (Nx λi j=> .bl (g i j)):=by
 intro pins s σ H x y v u Q I rx ry h
 obtain⟨i,j,rfl,rfl,q⟩:=h
 obtain⟨t,rfl⟩:=rx
 obtain⟨t',rfl⟩:=ry
 exact rule i j t t' s _ _ ⟨.bl (g i j),H,I,rfl,q⟩
def UI (i j:Int):Prop:=0<=j/\j<=1000000/\i.natAbs < 2^64
def Qj (i j:Int):Prop:=(-(2^64) < i/\i < 2^64)∨(-(2^64) < j/\j < 2^64)
theorem Qj.ok {i j:Int}(h:Qj i j):IntMulOk i j:=by
 rcases h with⟨h1,h2⟩ | ⟨h1,h2⟩
 ·exact .of_left (intBits_le_64 h1 h2)
 ·exact .of_right (intBits_le_64 h1 h2)
theorem Qk:qW X (binaryOp .Add) (Nx λi j=> .int (i+j)):=SD λ_ _ _ _ _ _ _ q=>add_int q
theorem Ql:qW X (binaryOp .Sub) (Nx λi j=> .int (i - j)):=SD λ_ _ _ _ _ _ _ q=>sub_int q
theorem Qm:qW X (binaryOp .Mult) (rI Qj λi j=> .int (i*j)):=UH λ_ _ _ _ _ _ _ hc q=>mul_int q hc.ok
theorem Qn:qW X (binaryOp .Mod) (rI (λ_ j=>0 < j) λi j=> .int (i % j)):=UH λi j _ _ _ _ _ hc q=>by
 have h1:(0:Int) < j:=hc
 exact mod_int' (by omega) (by rw[Int.fmod_eq_emod_of_nonneg i (by omega)];exact q)
theorem Qo:qW X (binaryOp .Pow) (rI UI λi j=> .int (i^j.toNat)):=UH λ_ _ _ _ _ _ _ hc q=>pow_int_small hc.1 hc.2.1 hc.2.2 q
theorem WI {f:Value->Sem Value}{g:Int->Int}
  (rule:∀(i:Int) (t:Tok) (s:Shared) (Q:Jx) (E:Jx),Q (.int (g i) s.toks) {s with toks:=s.toks+1}->wpAny (model X.prog X.w) X.A (f (.int i t)) Q E s) :
  TV X f (rU λi=> .int (g i)):=by
 intro pins s σ H x v Q I rx h
 obtain⟨i,rfl,q⟩:=h
 obtain⟨t,rfl⟩:=rx
 exact rule i t s _ _ ⟨.int (g i),H,I.tok _,⟨_,rfl⟩,q⟩
theorem Qp:TV X (unaryOp .USub) (rU λi=> .int (-i)):=WI λ_ _ _ _ _ q=>neg_int q
end
section
variable {X:Cx}{a b c:Expr}{ta tb tc:TE}{pos:Pos}
theorem KE {pins:List (Addr×Obj)}{σ:St}{H:Hp}{s:Shared}{Q:VK}{k k':Bool}(I:Inv X pins σ H s)(q:Q (.bl k) H)(e:k=k'):EP X pins σ Q (.bool k') s:=by
 subst e
 exact⟨.bl k,H,I,rfl,q⟩
theorem SE:qW X (compareOp .Lt) (Nx λi j=> .bl (decide (i < j))):=Ny λ_ _ _ _ _ _ _ q=>lt_int q
theorem SG:qW X (compareOp .LtE) (Nx λi j=> .bl (decide (i<=j))):=Ny λ_ _ _ _ _ _ _ q=>le_int q
theorem SH:qW X (compareOp .Gt) (Nx λi j=> .bl (decide (j < i))):=Ny λ_ _ _ _ _ _ _ q=>gt_int q
theorem SJ:qW X (compareOp .GtE) (Nx λi j=> .bl (decide (j<=i))):=Ny λ_ _ _ _ _ _ _ q=>ge_int q
theorem Qq:qW X (compareOp .Is) (λx y H Q=>y= .non/\Q (.bl (decide (x= .non))) H):=by
 intro pins s σ H x y v u Q I rx ry h
 obtain⟨rfl,q⟩:=h
 cases ry
 refine is_none_gen (KE I q ?_)
 cases x <;> first
  | (cases rx;rfl)
  | (obtain⟨t,rfl⟩:=rx;rfl)
theorem Nz:qW X (compareOp .IsNot) (λx y H Q=>y= .non/\Q (.bl (!decide (x= .non))) H):=by
 intro pins s σ H x y v u Q I rx ry h
 obtain⟨rfl,q⟩:=h
 cases ry
 refine isnot_none_gen (KE I q ?_)
 cases x <;> first
  | (cases rx;rfl)
  | (obtain⟨t,rfl⟩:=rx;rfl)
theorem qW.or {f:Value->Value->Sem Value}{r r':R2}(h:qW X f r)(h':qW X f r'):qW X f (λx y H Q=>r x y H Q∨r' x y H Q):=by
 intro pins s σ H x y v u Q I rx ry q
 rcases q with q | q
 ·exact h pins s σ H x y v u Q I rx ry q
 ·exact h' pins s σ H x y v u Q I rx ry q
theorem cj (b:Expr){op:CmpOp}(h:op≠ .In:=by decide)(h2:op≠ .NotIn:=by decide):behindInMarks op b=false:=by
 have e1:(op==CmpOp.In)=false:=by cases op <;> first | rfl | exact absurd rfl h
 have e2:(op==CmpOp.NotIn)=false:=by cases op <;> first | rfl | exact absurd rfl h2
 cases b <;> simp[behindInMarks,e1,e2]
theorem NA {op:CmpOp}{r:R2}(ho:qW X (compareOp op) r)(ha:PE X a ta)(hb:PE X b tb)(hm:behindInMarks op b=false):PE X (.Compare a [op] [b] pos) (TX r ta tb):=by
 intro pins s σ H Q I h
 exact wpAny_Compare1 (Qi ha hb I h λv u s2 x y H2 I2 rx ry q=>ho pins s2 σ H2 x y v u Q I2 rx ry q) hm
def KG (t:TE):TT:=λσ H Q=>t σ H λx H'=>∃k,x= .bl k/\Q k H'
theorem NB {op:CmpOp}{r:R2}(ho:qW X (compareOp op) r)(ha:PE X a ta)(hb:PE X b tb)(hm:behindInMarks op b=false):PT X (.Compare a [op] [b] pos) (KG (TX r ta tb)):=by
 intro pins s σ H Q I h
 refine wpAny_isTrue_Compare1 (eQ (ha pins s σ H _ I h) λv s1 ⟨x,H1,I1,r1,q1⟩=>eQ (hb pins s1 σ H1 _ I1 q1) λu s2 ⟨y,H2,I2,r2,q2⟩=>
  eQ (ho pins s2 σ H2 x y v u _ I2 r1 r2 q2) λc s3 ⟨z,H3,I3,r3,k,e,q3⟩=> ?_) hm
 subst e
 cases r3
 exact wpAny_truthy_bool ⟨H3,I3,q3⟩
def Qr (r r':R2)(ta tb tc:TE):TE:=λσ H Q=>ta σ H λx H1=>tb σ H1 λy H2=>r x y H2 λz H3=>∃k,z= .bl k/\
 (if k=true then tc σ H3 λw' H4=>r' y w' H4 Q else Q (.bl false) H3)
theorem KH {op op':CmpOp}{r r':R2}(ho:qW X (compareOp op) r)(ho':qW X (compareOp op') r')(ha:PE X a ta)(hb:PE X b tb)(hc:PE X c tc)
  (hm:lastMarks [op,op'] [b,c]=false:=by with_unfolding_all rfl):PT X (.Compare a [op,op'] [b,c] pos) (KG (Qr r r' ta tb tc)):=by
 intro pins s σ H Q I h
 refine isTrue_chain (eQ (ha pins s σ H _ I h) λv s1 ⟨x,H1,I1,r1,q1⟩=>test_link (eQ (hb pins s1 σ H1 _ I1 q1) λu s2 ⟨y,H2,I2,r2,q2⟩=>
  eQ (ho pins s2 σ H2 x y v u _ I2 r1 r2 q2) λd s3 ⟨z,H3,I3,r3,k,e,q3⟩=> ?_)) hm
 subst e
 cases r3
 refine wpAny_truthy_bool ?_
 cases k with
 | false=>
  obtain⟨k',e',q'⟩:=q3
  cases e'
  exact ite_ff ⟨H3,I3,q'⟩
 | true=>
  refine ite_tt (test_last (eQ (hc pins s3 σ H3 _ I3 q3) λw' s4 ⟨z',H4,I4,r4,q4⟩=>eQ (ho' pins s4 σ H4 y z' u w' _ I4 r2 r4 q4) λd' s5 ⟨z2,H5,I5,r5,k2,e2,q5⟩=> ?_))
  subst e2
  cases r5
  exact wpAny_truthy_bool ⟨H5,I5,q5⟩
theorem m7:(sizeLine:Nat) < 2^63:=by rw[sizeLine_eq];decide
theorem vals1 {x:V}{us:List Value}(r:Vals [x] us):∃u,us=[u]/\RelV x u:=by
 cases r with
 | cons r1 r2=>cases r2;exact⟨_,rfl,r1⟩
end
structure Cls (K:Frag)(C:Addr):Prop where
 pg:PySem.W.plainGet K C Str.empty=true
 hd:PySem.W.hasDictIn K C=true
 po:PySem.W.plainOver K C=true
 sa:PySem.W.findIn K (.ref C) "__setattr__" =some (some (.builtin "object.__setattr__"))
theorem Cls.get {K:Frag}{C:Addr}(c:Cls K C)(f:Str):PySem.W.plainGet K C f=true:=c.pg
section
variable {X:Cx}{pins:List (Addr×Obj)}{σ:St}{H:Hp}{s:Shared}{a C dx:Addr}{fs:List (Str×V)}{f:Str}{v:V}{A:Around}{E:Jx}
theorem Inv.made (I:Inv X pins σ H s):Inv X pins σ (upd (upd H s.heap.objs.size (.own (s.heap.objs.size+1))) (s.heap.objs.size+1) (.ins C s.heap.objs.size []))
  {s with heap:=(s.heap.push PySem.W.emptyDict).push (PySem.W.instObj C s.heap.objs.size)}:=by
 have e1:(s.heap.push PySem.W.emptyDict).get? s.heap.objs.size=some PySem.W.emptyDict:=Kz s.heap rfl
 have e2:((s.heap.push PySem.W.emptyDict).push (PySem.W.instObj C s.heap.objs.size)).get? (s.heap.objs.size+1)=some (PySem.W.instObj C s.heap.objs.size):=by
  have:=Kz (s.heap.push PySem.W.emptyDict) (o:=PySem.W.instObj C s.heap.objs.size) rfl
  rwa [Xw] at this
 have e3:(s.heap.push PySem.W.emptyDict).Ns s.heap.objs.size (λ_=>none):=⟨PySem.W.emptyDict,#[],_,e1,rfl,(λe he=>absurd he (by simp)),λ_=>rfl⟩
 have I1:=I.laid (a:=s.heap.objs.size) (o:=.own (s.heap.objs.size+1)) (h':=s.heap.push PySem.W.emptyDict) (t':=s.toks) (λb u q=>K6 _ q) (Ku _) ⟨_,e1⟩
 refine I1.laid (a:=s.heap.objs.size+1) (o:=.ins C s.heap.objs.size []) (t':=s.toks) (λb u q=>K6 _ q) (Nat.le_of_eq (Xw _ _)) ?_
 have ne:s.heap.objs.size≠s.heap.objs.size+1:=X1 (U2 _)
 refine⟨by rw[a9 ne,aB],Xu _,ne,e2,λ_=>none,(Heap.Ns1.of_empty e3).at λo q=>K6 _ q,λ_=>True.intro,λy hy=>absurd rfl hy⟩
end
structure hX (k:Nat)(A:Around):Prop where
 hd:A.handled=none
 dp:A.depth+3*k+5 < recursionLimit
 un:A.units+16*k+200 < cLine
theorem hX.mono {j k:Nat}{A:Around}(r:hX k A)(h:j<=k):hX j A:=⟨r.hd,by have:=r.dp;omega,by have:=r.un;omega⟩
theorem hX.deeper {k:Nat}{A:Around}(r:hX (k+1) A)(env:Env):hX k (A.deeper env) :=
 ⟨r.hd,by have:=r.dp;show A.depth+1+3*k+5 < _;omega,by have:=r.un;show A.units+3+16*k+200 < _;omega⟩
theorem hX.in1 {k:Nat}{A:Around}(r:hX (k+1) A):hX k A.in1 :=
 ⟨r.hd,by have:=r.dp;show A.depth+3*k+5 < _;omega,by have:=r.un;show A.units+1+16*k+200 < _;omega⟩
theorem Fj {A:Around}{C:Addr}{us:List Value}{kw:List (Str×Value)}:(A.under (.builtin "type.__call__" ⟨.ref C :: us,kw⟩)).depth=A.depth+1:=by
 first | rfl | simp[Around.under,Code.weight,Code.isCreation,Code.isGuard,Code.isCaller,Code.frames,Code.isFrame,guardIds]
theorem Fk {A:Around}{C:Addr}{us:List Value}{kw:List (Str×Value)}:(A.under (.builtin "type.__call__" ⟨.ref C :: us,kw⟩)).units=A.units+1:=by
 first | rfl | simp[Around.under,Code.cUnits,Code.frames,Code.isFrame]
theorem hX.make {k:Nat}{A:Around}(r:hX (k+1) A)(C:Addr)(us:List Value)(kw:List (Str×Value)):hX k (A.under (.builtin "type.__call__" ⟨.ref C :: us,kw⟩)) :=
 ⟨r.hd,by have:=r.dp;rw[Fj];omega,by have:=r.un;rw[Fk];omega⟩
theorem hX.depth {k:Nat}{A:Around}(r:hX k A):A.depth < recursionLimit:=by have:=r.dp;omega
theorem hX.units {k:Nat}{A:Around}(r:hX k A):A.units+64 < cLine:=by have:=r.un;omega
def UL:TA:=λ_ H Q=>Q [] H
def SK (ta:TE)(tr:TA):TA:=λσ H Q=>ta σ H λx H1=>tr σ H1 λxs H2=>Q (x :: xs) H2
section
variable {X:Cx}{e:Expr}{es:List Expr}{te:TE}{t:TA}{pos:Pos}
theorem fz:PA X [] UL:=λ_ _ _ _ H Q I h=>Calls.spliced_nil ⟨[],H,I,.nil,h⟩
theorem b9 (ha:PE X e te)(hr:PA X es t)(hs:starEach (e :: es) X.env=(false,eval e X.env) :: starEach es X.env:=by rfl):PA X (e :: es) (SK te t):=by
 intro pos pins s σ H Q I h
 rw[hs]
 show wpAny _ _ (spliced ((false,eval e X.env) :: backTo pos (starEach es X.env))) _ _ s
 refine Calls.spliced_cons (eQ (ha pins s σ H _ I h) λu s1 ⟨x,H1,I1,r1,q1⟩=> ?_)
 exact eQ (hr pos pins s1 σ H1 _ I1 q1) λus s2 ⟨xs,H2,I2,r2,q2⟩=>⟨x :: xs,H2,I2,.cons r1 r2,q2⟩
def UM (t:TA):TE:=λσ H Q=>t σ H λxs H1=>xs.length<=sizeLine/\∀p,H1 p=none->Q (.ref p) (upd H1 p (.tup xs))
def UN (t:TA):TE:=λσ H Q=>t σ H λxs H1=>xs.length<=sizeLine/\∀p,H1 p=none->Q (.ref p) (upd H1 p (.lst xs))
theorem Qs {x1}(h:PA X es t):PE X (.Tuple es x1 pos) (UM t):=by
 intro pins s σ H Q I hq
 refine wpAny_Tuple_spliced (eQ (h pos pins s σ H _ I hq) λus s1 ⟨xs,H1,I1,r,z,q⟩=>⟨by rw[←r.length];exact z,?_⟩)
 have hf:H1 s1.heap.objs.size=none:=I1.hok.fresh (Ku _)
 refine⟨.ref s1.heap.objs.size,upd H1 s1.heap.objs.size (.tup xs),I1.laid (t':=s1.toks) (λb u e=>K6 _ e) (Ku _) ?_,rfl,q _ hf⟩
 exact⟨z,us,r,⟨_,Kz _ rfl,rfl,_,rfl⟩⟩
theorem KI (h:PA X es t):PE X (.List es pos) (UN t):=by
 intro pins s σ H Q I hq
 refine wpAny_List_spliced (eQ (h pos pins s σ H _ I hq) λus s1 ⟨xs,H1,I1,r,z,q⟩=>⟨by rw[←r.length];exact z,?_⟩)
 have hf:H1 s1.heap.objs.size=none:=I1.hok.fresh (Ku _)
 refine⟨.ref s1.heap.objs.size,upd H1 s1.heap.objs.size (.lst xs),I1.laid (t':=s1.toks) (λb u e=>K6 _ e) (Ku _) ?_,rfl,q _ hf⟩
 exact⟨z,us,0,r,Kz _ rfl⟩
end
abbrev Sp:=List V->Hp->VK->XK->Prop
abbrev G5:=List Env->Hp->Shared->XK->Value->Shared->Prop
structure xp (P:Program)(w:World)(K:Frag)(mg:Str->Option Value)(base:Heap)(A:Around)(outer:List Env)(s:Shared)(H:Hp):Prop where
 frames:A.frames=some outer
 mod:Mod K mg base
 bs:∀b o,base.get? b=some o->s.heap.get? b=some o/\H b=none
 Ic:base.objs.size<=s.heap.objs.size
 pc:s.heap.FunFrames base outer
 Nm:∀b∈frs outer,H b=none
 hok:ul P w H s.heap
 bare:AllBare s.gens
def CE (outer:List Env)(P:Program)(w:World)(H:Hp)(s:Shared)(Q:VK)(u:Value)(s':Shared):Prop :=
 ∃v H',s'.os=s.os/\AllBare s'.gens/\Un (frs outer) [] H H' s.heap s'.heap/\ul P w H' s'.heap/\RelV v u/\Q v H'
def CR (CX:G5)(outer:List Env)(P:Program)(w:World)(H:Hp)(s:Shared)(Q:VK)(E:XK)(r:Result)(s':Shared):Prop :=
 match r with
 | .ok (.ret u)=>CE outer P w H s Q u s'
 | .ok _=>False
 | .error e=>CX outer H s E e s'
structure cu (P:Program)(w:World)(K:Frag)(mg:Str->Option Value)(base:Heap)(CX:G5)(k:Nat)(f:Addr)(fd:FuncData)(ps:List Str)(sp:Sp):Prop where
 len:∀vs H Q E,sp vs H Q E->vs.length=ps.length
 run:∀(A:Around) (outer:List Env) (s:Shared) (H:Hp) (args:Args) (us:List Value) (vs:List V) (Q:VK) (E:XK),hX k A->xp P w K mg base A outer s H->BindsTo s fd args (ps.zip us)->Vals vs us->sp vs H Q E->
  codeAny (model P w) A (.call (.ref f) args) (CR CX outer P w H s Q E) s
theorem cu.mono {P:Program}{w:World}{K:Frag}{mg:Str->Option Value}{base:Heap}{CX:G5}{j k:Nat}{f:Addr}{fd:FuncData}{ps:List Str}{sp:Sp}(F:cu P w K mg base CX j f fd ps sp)(h:j<=k) :
  cu P w K mg base CX k f fd ps sp:=⟨F.len,λA outer s H args us vs Q E hr=>F.run A outer s H args us vs Q E (hr.mono h)⟩
theorem cu.imp {P:Program}{w:World}{K:Frag}{mg:Str->Option Value}{base:Heap}{CX:G5}{k:Nat}{f:Addr}{fd:FuncData}{ps:List Str}{sp V0:Sp}(F:cu P w K mg base CX k f fd ps sp)
  (h:∀vs H Q E,V0 vs H Q E->sp vs H Q E):cu P w K mg base CX k f fd ps V0 :=
 ⟨λvs H Q E q=>F.len vs H Q E (h _ _ _ _ q),λA outer s H args us vs Q E hr he hb hv hs=>F.run A outer s H args us vs Q E hr he hb hv (h _ _ _ _ hs)⟩
theorem xp.make {P:Program}{w:World}{K:Frag}{mg:Str->Option Value}{base:Heap}{A:Around}{outer:List Env}{s:Shared}{H:Hp}(e:xp P w K mg base A outer s H)(C:Addr)(us:List Value)(kw:List (Str×Value)) :
  xp P w K mg base (A.under (.builtin "type.__call__" ⟨.ref C :: us,kw⟩)) outer s H:=⟨by first | exact e.frames | (simpa [Around.under,Code.envs,Code.isFrame,pushEnvs] using e.frames),e.mod,e.bs,e.Ic,e.pc,e.Nm,e.hok,e.bare⟩
theorem xp.in1 {P:Program}{w:World}{K:Frag}{mg:Str->Option Value}{base:Heap}{A:Around}{outer:List Env}{s:Shared}{H:Hp}(e:xp P w K mg base A outer s H) :
  xp P w K mg base A.in1 outer s H:=⟨e.frames,e.mod,e.bs,e.Ic,e.pc,e.Nm,e.hok,e.bare⟩
section
variable {X:Cx}{pins:List (Addr×Obj)}{σ:St}{H:Hp}{s s':Shared}
theorem Inv.env0 (I:Inv X pins σ H s):xp X.prog X.w X.K X.mg X.base X.A X.stack s H :=
 ⟨I.ok.frames,I.ok.mod,I.bs,Kq I.ok.Ic I.sz,I.stack,I.GZ,I.hok,I.bare⟩
theorem Inv.after {Q:VK}{u:Value}(I:Inv X pins σ H s)(h:CE X.stack X.prog X.w H s Q u s'):EP X pins σ Q u s':=by
 obtain⟨v,H',os,bare,un,hok,r,q⟩:=h
 obtain⟨hh,g,d,t,os'⟩:=s'
 obtain rfl:os'=s.os:=os
 exact⟨v,H',I.call (h':=hh) (g':=g) (d':=d) (t':=t) (ch:=[]) un hok bare (λb z=>absurd z (by simp)),r,q⟩
end
def SL (sp:Sp)(Pq:List V)(E:XK)(t:TA):TE:=λσ H Q=>t σ H λvs H1=>sp (vs++Pq) H1 Q E
def Binds (K:Frag)(fd:FuncData)(ps:List Str)(ds:List Value):Prop :=
 ∀(s:Shared) (us:List Value),K.In s.heap->(us++ds).length=ps.length->BindsTo s fd ⟨us,[]⟩ (ps.zip (us++ds))
theorem Binds.all {K:Frag}{fd:FuncData}{ps:List Str}(h:∀us:List Value,us.length=ps.length->bindArgs fd ⟨us,[]⟩=pure (ps.zip us)):Binds K fd ps []:=λs us _ hl=>by
 rw[Xx] at hl⊢
 exact .of_eq (h us hl)
def Passes (CX:G5)(X:Cx)(E:XK):Prop:=∀(pins:List (Addr×Obj)) (σ:St) (H:Hp) (s:Shared) (e:Value) (s':Shared),Inv X pins σ H s->CX X.stack H s E e s'->X.xe e s'
section
variable {X:Cx}{CX:G5}{k:Nat}{f C:Addr}{fd:FuncData}{ps:List Str}{sp:Sp}{Pq:List V}{ds:List Value}{E:XK}{x m:Str}{p pos apos:Pos}{e o:Expr}{es:List Expr}{ta:TE}{t:TA}
theorem Qt {pins:List (Addr×Obj)}{σ:St}{H:Hp}{s:Shared}{Q:VK}{us:List Value}{vs:List V}(F:cu X.prog X.w X.K X.mg X.base CX k f fd ps sp)(hr:hX k X.A)(hb:Binds X.K fd ps ds)(hd:Vals Pq ds)(hx:Passes CX X E)
  (I:Inv X pins σ H s) (r:Vals vs us) (h:sp (vs++Pq) H Q E):wpAny (model X.prog X.w) X.A (call (.ref f) us) (EP X pins σ Q) X.xe s:=by
 have r2:Vals (vs++Pq) (us++ds):=r.append hd
 have hl:(us++ds).length=ps.length:=by rw[←r2.length];exact F.len _ _ _ _ h
 refine wpAny_call (codeAny_mono (F.run X.A X.stack s H ⟨us,[]⟩ (us++ds) (vs++Pq) Q E hr I.env0 (hb s us I.Ie hl) r2 h) λr s' hq=> ?_)
 cases r with
 | error e=>exact hx pins σ H s e s' I hq
 | ok fl=>
  cases fl with
  | ret u=>exact I.after hq
  | next=>exact False.elim hq
  | brk=>exact False.elim hq
  | cont=>exact False.elim hq
theorem G6 (F:cu X.prog X.w X.K X.mg X.base CX k f fd ps sp)(hr:hX k X.A)(hg:Gl X x)(hm:X.mg x=some (.ref f))(hk:keepIn X.K (.ref f)=true)(hb:Binds X.K fd ps ds)(hd:Vals Pq ds)(hx:Passes CX X E)
  (ha:PA X (e :: es) t) (hdb:(x==("__debug__":Str))=false:=by decide) (he:starEach (e :: es) X.env=(false,eval e X.env) :: starEach es X.env:=by rfl) (hpl:(backTo pos (starEach es X.env)).any (·.1)=false:=by rfl) :
  PE X (.Call (.Name x p) (e :: es) [] pos) (SL sp Pq E t):=by
 intro pins s σ H Q I h
 refine wpAny_Call_Name_kw (G1 I hg hm ?_ hdb)
 refine PySem.W.callWith_K (h₀:=X.base) I.ok.mod.TL hk (eQ (ha pos pins s σ H _ I h) λus s1 ⟨vs,H1,I1,r,q⟩=>⟨I1.Ie,?_⟩) he hpl
 exact Qt F hr hb hd hx I1 r q
end
structure aL (N P:List Str)(sc:Scope):Prop where
 kind:sc.kind= .function
 co:sc.isCoroutine=false
 gen:sc.isGenerator=false
 nd:N.Nodup
 pre:N.take P.length=P
 par:∀x∈P,sc.names.lookup x=some .local∨sc.names.lookup x=some .cell
 Qu:∀y∈sc.names,y.2≠ .free
theorem yp {kindOf:Str->Option NameKind}{x:Str}:∀{binds:List (Str×Value)} {m:Str->Option Value},(∀v,(x,v)∉binds)->bindL kindOf binds m x=m x
 | [],_,_=>rfl
 | (n,v) :: r,m,h=>by
  unfold bindL
  rw[yp λw hw=>h w (K9 _ hw)]
  split
  ·have:x≠n:=by rintro rfl;exact h v K8
   simp[this]
  ·rfl
theorem yq {kindOf:Str->Option NameKind}{x:Str}:∀{binds:List (Str×Value)} {m:Str->Option Value},(∀v,(x,v)∉binds)->bindC kindOf binds m x=m x
 | [],_,_=>rfl
 | (n,v) :: r,m,h=>by
  unfold bindC
  rw[yq λw hw=>h w (K9 _ hw)]
  split
  ·rfl
  ·have:x≠n:=by rintro rfl;exact h v K8
   simp[this]
theorem yr {kindOf:Str->Option NameKind}{x:Str}{v:Value}:∀{P:List Str} {vs:List Value} {i:Nat} {m:Str->Option Value},P.Nodup->P[i]? =some x->vs[i]? =some v->kindOf x=some .local->
  bindL kindOf (P.zip vs) m x=some v
 | [],_,_,_,_,h,_,_=>by simp at h
 | _ :: _,[],_,_,_,_,h,_=>by simp at h
 | p :: P,w :: vs,0,m,nd,h1,h2,hk=>by
  simp at h1 h2;subst h1;subst h2
  show bindL kindOf ((p,w) :: P.zip vs) m p=_
  unfold bindL
  rw[yp λv hv=>(KJ.mp nd).1 (List.of_mem_zip hv).1,J5 hk]
  simp
 | p :: P,w :: vs,i+1,m,nd,h1,h2,hk=>by
  show bindL kindOf ((p,w) :: P.zip vs) m x=_
  unfold bindL
  exact yr (i:=i) (KJ.mp nd).2 (by simpa using h1) (by simpa using h2) hk
theorem yt {kindOf:Str->Option NameKind}{x:Str}{v:Value}:∀{P:List Str} {vs:List Value} {i:Nat} {m:Str->Option Value},P.Nodup->P[i]? =some x->vs[i]? =some v->kindOf x≠some .local->
  bindC kindOf (P.zip vs) m x=some v
 | [],_,_,_,_,h,_,_=>by simp at h
 | _ :: _,[],_,_,_,_,h,_=>by simp at h
 | p :: P,w :: vs,0,m,nd,h1,h2,hk=>by
  simp at h1 h2;subst h1;subst h2
  show bindC kindOf ((p,w) :: P.zip vs) m p=_
  unfold bindC
  rw[yq λv hv=>(KJ.mp nd).1 (List.of_mem_zip hv).1,J6 hk]
  simp
 | p :: P,w :: vs,i+1,m,nd,h1,h2,hk=>by
  show bindC kindOf ((p,w) :: P.zip vs) m x=_
  unfold bindC
  exact yt (i:=i) (KJ.mp nd).2 (by simpa using h1) (by simpa using h2) hk
def start (N:List Str)(vs:List V):St:=vs.map some++List.replicate (N.length - vs.length) none
def zm (CX:G5)(P:Program)(w:World)(K:Frag)(mg:Str->Option Value)(base:Heap)(N:List Str)(qual:Str)(scope:Scope)(f:Addr)(cd:Value)(A:Around)(outer:List Env)(s:Shared)(H:Hp)(E:XK):Cx where
 prog:=P
 w:=w
 K:=K
 mg:=mg
 base:=base
 A:=A.deeper (envOfC qual scope s.heap.objs.size f cd)
 N:=N
 s₀:=s
 H₀:=H
 env:=envOfC qual scope s.heap.objs.size f cd
 outer:=outer
 stack:=envOfC qual scope s.heap.objs.size f cd :: outer
 ex:=[]
 calm:=true
 fn:=λ_=>true
 pn:=[]
 xe:=λe s'=>wpAny (model P w) (A.deeper (envOfC qual scope s.heap.objs.size f cd)) (leaving (envOfC qual scope s.heap.objs.size f cd) e) (λ_ s''=>CX outer H s E e s'') (λe' s''=>CX outer H s E e' s'') s'
theorem Cb {sc:Scope}{n:Nat}{x:Str}(h:sc.names.lookup x=some .cell):∃c,(cellsFrom n sc.names []).lookup x=some c:=by
 have q:=PySem.W.cellsFrom_some sc.names n [] (.inl h)
 exact Option.isSome_iff_exists.mp q
theorem Ij {CX:G5}{P:Program}{w:World}{K:Frag}{mg:Str->Option Value}{base:Heap}{N ps:List Str}{qual:Str}{scope:Scope}{f:Addr}{cd:Value}{A:Around}{outer:List Env}{s s1:Shared}{H:Hp}{E:XK}{us:List Value}{vs:List V}
  (S:aL N ps scope) (hd:A.handled=none) (e0:xp P w K mg base A outer s H) (hl:vs.length=ps.length) (r:Vals vs us)
  (x:InCallC s s.heap.objs.size (bindL (envOfC qual scope s.heap.objs.size f cd).kindOf (ps.zip us) λ_=>none) (cellsFrom (s.heap.objs.size+1) scope.names []) (bindC (envOfC qual scope s.heap.objs.size f cd).kindOf (ps.zip us) λ_=>none) s1) :
  Inv (zm CX P w K mg base N qual scope f cd A outer s H E) [] (start N vs) H s1:=by
 have hpl:ps.length<=N.length:=by have:=congrArg List.length S.pre;rw[Uk] at this;omega
 obtain⟨h1,tk,rfl,hk⟩:=x.done
 have SM:∀b:Addr,b∉(zm CX P w K mg base N qual scope f cd A outer s H E).ex:=λb z=>absurd (show b∈([]:List Addr) from z) (by simp)
 refine⟨⟨e0.mod,S.kind,rfl,rfl,Ku _,λy z c h1 h2=> ?_,λy hy=> ?_,λy c _ h=> ?_,λ_=>hd,Around.frames_deeper e0.frames,.inr ⟨rfl,rfl⟩,λb z=>absurd z (SM b),e0.bs,e0.Ic,λb _ _=>SM b,λb z=>absurd z (SM b),e0.pc,e0.Nm⟩,
  rfl,e0.bare,Un.kept hk,⟨_,x.toInCall.ns,λi y v h1 h2 h3=> ?_⟩,λy c h=>⟨_,x.cell y c h⟩,e0.hok.fresh (Ku _),λy c h=> ?_,λp hp=>absurd (show p∈([]:List (Addr×Obj)) from hp) (by simp),e0.hok.kept hk,?_⟩
 ·exact name_of_addr x.apart (PySem.mem_of_lookup h1) (PySem.mem_of_lookup h2)
 ·have hy:scope.names.lookup y=some .cell∨scope.names.lookup y=some .free:=hy
  rcases hy with hy | hy
  ·exact Cb hy
  ·exact absurd rfl (S.Qu _ (PySem.mem_of_lookup hy))
 ·exact YK (x.above y c (PySem.mem_of_lookup h))
 ·have hi:i < vs.length:=by
   unfold start at h2
   by_cases hi:i < vs.length
   ·exact hi
   ·rw[Uq (by simpa using hi)] at h2
    rw[List.getElem?_replicate] at h2
    split at h2 <;> cases h2
  have ha:vs[i]? =some v:=by
   unfold start at h2
   rw[XQ (by simpa using hi),Kj] at h2
   cases e:vs[i]? with
   | none=>rw[e] at h2;cases h2
   | some a=>rw[e] at h2;cases h2;rfl
  obtain⟨u,hu,rv⟩:=r.get ha
  have hp:ps[i]? =some y:=by
   rw[←S.pre,List.getElem?_take_of_lt (by omega)];exact h1
  have V1:ps.Nodup:=by rw[←S.pre];exact S.nd.sublist (List.take_sublist _ _)
  refine⟨u,rv,?_⟩
  rcases S.par y (Y0 hp) with k | k
  ·exact .inl ⟨k,yr V1 hp hu k⟩
  ·obtain⟨c,e⟩:=Cb (n:=s.heap.objs.size+1) k
   refine .inr ⟨.inl k,c,e,?_⟩
   have q:=x.cell y c e
   rw[yt V1 hp hu (by show scope.names.lookup y≠_;rw[k];decide)] at q
   exact q
 ·exact e0.hok.fresh (YK (x.above y c (PySem.mem_of_lookup h)))
 ·unfold start
  show _=N.length
  rw[Kx,K4,List.length_replicate]
  omega
theorem SN {CX:G5}{P:Program}{w:World}{K:Frag}{mg:Str->Option Value}{base:Heap}{k:Nat}{f:Addr}{name qual:Str}{params:Arguments}{body:List Stmt}{scope:Scope}{dV kV doc pm cdv ct oc:Value}{an od:Option Addr}
  {osl:Array (Option Value)} {N ps:List Str} {sp:Sp} (lk:K.lookup f=some ⟨oc,od,.func (fnOf name qual params body scope dV kV doc pm an cdv ct),osl⟩) (hcd:codeIn K cdv qual=true) (S:aL N ps scope)
  (len:∀vs H Q E,sp vs H Q E->vs.length=ps.length)
  (hbody:∀(A:Around) (outer:List Env) (s:Shared) (H:Hp) (vs:List V) (Q:VK) (E:XK),hX k (A.deeper (envOfC qual scope s.heap.objs.size f cdv))->sp vs H Q E->
   ∃t,xn (zm CX P w K mg base N qual scope f cdv A outer s H E) body t/\t {nx:=λ_ H'=>Q .non H',rt:=Q} (start N vs) H) :
  cu P w K mg base CX (k+1) f (fnOf name qual params body scope dV kV doc pm an cdv ct) ps sp:=by
 refine⟨len,λA outer s H args us vs Q E hr e0 hb r hsp=> ?_⟩
 have hl:=len _ _ _ _ hsp
 have KX:K.In s.heap:=e0.mod.TL.keeps λb o e=>(e0.bs b o e).1
 have lim:s.heap.NoLimit:=e0.mod.nolimit.keeps λb o e=>(e0.bs b o e).1
 have hkind:∀y∈ps.zip us,scope.names.lookup y.1=some .local∨(scope.names.lookup y.1=some .cell/\((cellsFrom (s.heap.objs.size+1) scope.names []).lookup y.1).isSome=true):=λ⟨n,v⟩ hy=>by
  rcases S.par n (List.of_mem_zip hy).1 with q | q
  ·exact .inl q
  ·exact .inr ⟨q,PySem.W.cellsFrom_some _ _ _ (.inl q)⟩
 refine codeAny_call_function hr.depth (KX _ _ lk) rfl S.co S.gen rfl (PySem.W.codeRec_of KX hcd) (hb _ _ _ _ ?_)
 refine wpAny_newFunctionEnv_cells S.kind hkind λenv he s1 x=> ?_
 subst he
 refine⟨lim.keeps x.toInCall.keep,codeAny_func ?_⟩
 obtain⟨t,ht,hq⟩:=hbody A outer s H vs Q E (hr.deeper _) hsp
 have I:Inv (zm CX P w K mg base N qual scope f cdv A outer s H E) [] (start N vs) H s1:=Ij S hr.hd e0 hl r x
 refine wpAny_mono (ht [] s1 (start N vs) H _ I hq) (λfl s' hs=> ?_) λe s' hs=>hs
 have fin:∀{σ':St} {H':Hp} {v:V} {u:Value},Inv (zm CX P w K mg base N qual scope f cdv A outer s H E) [] σ' H' s'->RelV v u->Q v H'->CE outer P w H s Q u s' :=
  λ{σ' H' v u} J rv q=>⟨v,H',J.os,J.bare,J.base,J.hok,rv,q⟩
 cases fl with
 | ret u=>
  obtain⟨v,σ',H',J,rv,q⟩:=hs
  exact fin J rv q
 | next=>
  obtain⟨σ',H',J,q⟩:=hs
  exact fin (v:=V.non) (u:=Value.none) J rfl q
 | brk=>
  obtain⟨_,_,_,q⟩:=hs
  exact False.elim q
 | cont=>
  obtain⟨_,_,_,q⟩:=hs
  exact False.elim q
section
variable {X:Cx}{x:Str}{p pos:Pos}{e:Expr}{es:List Expr}{t:TA}{id T:String}{r:List V->Hp->VK->Prop}
def UO (r:List V->Hp->VK->Prop)(t:TA):TE:=λσ H Q=>t σ H λvs H1=>r vs H1 Q
theorem Cc (hc:kz X (.builtin id) r)(hg:Gl X x)(hm:X.mg x=none)(hv:bootBuiltins x=some (.builtin id))(ha:PA X (e :: es) t)(hn:x≠ "__name__":=by decide)(hdb:(x==("__debug__":Str))=false:=by decide)
  (he:starEach (e :: es) X.env=(false,eval e X.env) :: starEach es X.env:=by rfl) (hpl:(backTo pos (starEach es X.env)).any (·.1)=false:=by rfl):PE X (.Call (.Name x p) (e :: es) [] pos) (UO r t):=by
 intro pins s σ H Q I h
 refine wpAny_Call_Name_kw (gS I hg hm hv ?_ hn hdb)
 exact PyProof.Rows.callWith_builtin1 (eQ (ha pos pins s σ H _ I h) λus s1 ⟨vs,H1,I1,r1,q1⟩=>hc pins s1 σ H1 vs us Q I1 r1 q1) he hpl
theorem Ik (hc:kz X (.type T) r)(hg:Gl X x)(hm:X.mg x=none)(hv:bootBuiltins x=some (.type T))(ha:PA X (e :: es) t)(hn:x≠ "__name__":=by decide)(hdb:(x==("__debug__":Str))=false:=by decide)
  (he:starEach (e :: es) X.env=(false,eval e X.env) :: starEach es X.env:=by rfl) (hpl:(backTo pos (starEach es X.env)).any (·.1)=false:=by rfl):PE X (.Call (.Name x p) (e :: es) [] pos) (UO r t):=by
 intro pins s σ H Q I h
 refine wpAny_Call_Name_kw (gS I hg hm hv ?_ hn hdb)
 exact PyProof.Rows.callWith_type1 (eQ (ha pos pins s σ H _ I h) λus s1 ⟨vs,H1,I1,r1,q1⟩=>hc pins s1 σ H1 vs us Q I1 r1 q1) he hpl
end
end L2
namespace HT
open PySem PyProof.Rows
section
variable {prog:Program}{w:World}{A:Around}{E:Jx}{s:Shared}
theorem NC {t b:Addr}{vs ws:List Value}{Q:Jx}(ht:IsTup s.heap t vs.toArray)(hb:IsTup s.heap b ws.toArray)(hv:vs≠[])
  (h1:ws=[]->Q (.ref t) s) (h2:ws≠[]->Q (.ref s.heap.objs.size) {s with heap:=s.heap.push {cls:=.type "tuple",data:=.seq (vs++ws).toArray}})
  (hsz:vs.length+ws.length<=sizeLine):wpAny (model prog w) A (binaryOp .Add (.ref t) (.ref b)) Q E s:=by
 obtain⟨⟨cls,dd,data,sl⟩,ho,hc,n,hd⟩:=id ht
 obtain⟨⟨cls2,dd2,data2,sl2⟩,ho2,hc2,n2,hd2⟩:=id hb
 simp only at hc hd hc2 hd2
 subst hc hd hc2 hd2
 have e:vs.toArray++ws.toArray=(vs++ws).toArray:=by simp
 by_cases hw:ws=[]
 ·exact concat_meets ⟨_,ho,rfl⟩ ⟨_,ho2,rfl⟩ noFill_tuple_add seq_tuple_add PySem.F.slot_tuple_add PySem.F.entry_tuple_add (PySem.F.args_tuple_add_2 _ _)
   (tuple_addW1 t b vs.toArray ws.toArray n n2 dd dd2 sl sl2 (by simpa using hv) (by simp[hw])) ⟨ho,ho2,h1 hw⟩
 ·refine concat_meets ⟨_,ho,rfl⟩ ⟨_,ho2,rfl⟩ noFill_tuple_add seq_tuple_add PySem.F.slot_tuple_add PySem.F.entry_tuple_add (PySem.F.args_tuple_add_2 _ _)
   (tuple_addW2 t b vs.toArray ws.toArray n n2 dd dd2 sl sl2 (by simpa using hv) (by simpa using hw) (by rw[Kw,Kw];exact hsz)) ⟨ho,ho2,?_⟩
  rw[e]
  exact h2 hw
def gq (n d:Nat):Option Int->Nat
 | none=>d
 | some v=>if v < 0 then (v+(n:Int)).toNat else min v.toNat n
theorem Qv (n d:Nat)(hd:d<=n)(o:Option Int):gq n d o<=n:=by
 cases o with
 | none=>exact hd
 | some v=>
  show(if v < 0 then (v+(n:Int)).toNat else min v.toNat n)<=n
  by_cases hv:v < 0
  ·rw[J5 hv];omega
  ·rw[J6 hv];exact Nat.min_le_right _ _
theorem G7 (v:Int)(n d:Nat):(if v < 0 then max (v+(n:Int)) 0 else min v (n:Int))=((gq n d (some v):Nat):Int):=by
 show(if v < 0 then max (v+(n:Int)) 0 else min v (n:Int))=(((if v < 0 then (v+(n:Int)).toNat else min v.toNat n):Nat):Int)
 by_cases hv:v < 0
 ·simp only[J5 hv];omega
 ·simp only[J6 hv];omega
theorem Fl (lo hi:Option Int)(n:Nat):Builtin.Slice.sliceAdjust lo hi 1 (n:Int)=(((gq n 0 lo:Nat):Int),((gq n n hi:Nat):Int)):=by
 have h1:¬ ((1:Int) < 0):=by omega
 unfold Builtin.Slice.sliceAdjust
 simp only[h1,if_false]
 refine Prod.ext ?_ ?_
 ·cases lo with
  | none=>rfl
  | some v=>exact G7 v n 0
 ·cases hi with
  | none=>rfl
  | some v=>exact G7 v n n
theorem Fm (i j:Nat):Builtin.Slice.slicePlaces (i:Int) (j:Int) 1=j - i:=by
 unfold Builtin.Slice.slicePlaces
 have h1:(1:Int) > 0:=by omega
 simp only[h1,if_true,Int.ediv_one]
 split <;> omega
theorem uG {v:Value}{o:Option Int}{Q:Option Int->Shared->Prop}(p:IsPart v o)(h:Q o s):wpAny (model prog w) A (Builtin.Slice.slicePartIndex v) Q E s:=by
 cases p with
 | none=>exact slicePart_none h
 | int i t=>exact slicePart_int h
theorem lr {sl:Addr}{vl vu:Value}{lo hi:Option Int}{n:Nat}{Q:Int×Int×Nat->Shared->Prop}(hs:s.heap.IsSliceOf sl vl vu .none)(pl:IsPart vl lo)(pu:IsPart vu hi)
  (h:Q (((gq n 0 lo:Nat):Int),1,gq n n hi - gq n 0 lo) s):wpAny (model prog w) A (Builtin.Slice.sliceApplied (.ref sl) (pure (n:Int))) Q E s:=by
 obtain⟨os,hos,hcs,hds⟩:=id hs
 unfold Builtin.Slice.sliceApplied Builtin.Slice.sliceFields
 refine J8 (J8 (wpAny_field hos hds (x:=vl) rfl (J8 (wpAny_field hos hds (x:=vu) rfl (J8 (wpAny_field hos hds (x:=.none) rfl (J7 ?_)))))))
 refine J8 (slicePart_none ?_)
 show wpAny _ _ (if ((1:Int)==0)=true then _ else _) _ _ s
 rw[J6 (by decide)]
 refine J8 (uG pl (J8 (uG pu (J8 (J7 ?_)))))
 show wpAny _ _ (match Builtin.Slice.sliceAdjust lo hi 1 (n:Int) with | (lo,hi)=>pure (lo,(1:Int),Builtin.Slice.slicePlaces lo hi 1)) _ _ s
 rw[Fl lo hi n]
 show wpAny _ _ (pure (((gq n 0 lo:Nat):Int),(1:Int),Builtin.Slice.slicePlaces ((gq n 0 lo:Nat):Int) ((gq n n hi:Nat):Int) 1)) _ _ s
 rw[Fm]
 exact J7 h
theorem KL (xs:Array Value)(i k:Nat):((List.range k).filterMap λ(m:Nat)=>xs[((i:Int)+(m:Int)*1).toNat]?).toArray=((xs.toList.drop i).take k).toArray:=by
 have e:(λ(m:Nat)=>xs[((i:Int)+(m:Int)*1).toNat]?)=λm=>xs[i+m]?:=by
  funext m
  have:((i:Int)+(m:Int)*1).toNat=i+m:=by omega
  rw[this]
 rw[e]
 have:=pick_run xs i k
 rw[List.filterMap_map] at this
 have e2:((λx=>xs[x]?) ∘ λx=>i+x)=λm=>xs[i+m]?:=rfl
 rw[e2] at this
 rw[this]
theorem p5 {t sl:Addr}{items:Array Value}{vl vu:Value}{lo hi:Option Int}{Q:Jx}(ht:IsTup s.heap t items)(hs:s.heap.IsSliceOf sl vl vu .none)(pl:IsPart vl lo)(pu:IsPart vu hi)
  (hw:¬ (gq items.size 0 lo=0/\gq items.size items.size hi=items.size))
  (h:Q (.ref s.heap.objs.size) {s with heap:=s.heap.push {cls:=.type "tuple",data:=.seq ((items.toList.drop (gq items.size 0 lo)).take (gq items.size items.size hi - gq items.size 0 lo)).toArray}})
  (hsz:items.size<=sizeLine):wpAny (model prog w) A (getItem (.ref t) (.ref sl)) Q E s:=by
 have G8:sizeOk (.seq ((items.toList.drop (gq items.size 0 lo)).take (gq items.size items.size hi - gq items.size 0 lo)).toArray):=by
  show((items.toList.drop (gq items.size 0 lo)).take (gq items.size items.size hi - gq items.size 0 lo)).toArray.size<=sizeLine
  rw[Kw,Uk,List.length_drop,Array.length_toList]
  omega
 have hj:gq items.size items.size hi<=items.size:=Qv _ _ (Ku _) hi
 obtain⟨os,hos,hcs,hds⟩:=id hs
 have hTs:s.TypeIs (.ref sl) "slice":=⟨os,hos,hcs⟩
 unfold getItem
 try with_reducible refine J2 ?_
 first | refine J8 (J7 ?_) | skip
 refine J8 (wpAny_sequenceKey ht.typeIs (by decide) ?_)
 refine J8 (wpAny_callSpecial?_slot (name:=Str.ofString "__getitem__") ht.typeIs PyProof.Rows.slot_tuple_getitem
  (J1 PyProof.Rows.slot_tuple_getitem ht.typeIs entry_tuple_getitem ?_ (args_tuple_getitem _ _)))
 show wpAny _ _ (Builtin.Tuple.tupleItemsOf (.ref t) >>=_) _ _ s
 refine J8 (tupleItemsOf_ ht ?_)
 refine J8 (wpAny_typeOf hTs ?_)
 rw[J5 (by decide)]
 refine J8 (lr hs pl pu ?_)
 have hno:¬ ((((gq items.size 0 lo:Nat):Int)==0 && (1:Int)==1 && (gq items.size items.size hi - gq items.size 0 lo)==items.size)=true):=by
  intro q
  rw[KQ,KQ] at q
  have q1:((gq items.size 0 lo:Nat):Int)=0:=eq_of_beq q.1.1
  have q2:gq items.size items.size hi - gq items.size 0 lo=items.size:=eq_of_beq q.2
  exact hw ⟨by omega,by omega⟩
 show wpAny _ _ (if (((gq items.size 0 lo:Nat):Int)==0 && (1:Int)==1 && (gq items.size items.size hi - gq items.size 0 lo)==items.size)=true then _ else _) _ _ s
 rw[J6 hno,KL]
 first
  | exact J8 (m:=Builtin.Tuple.tupleExact _) (J0 (J7 ⟨_,rfl,J7 h⟩) G8)
  | exact J8 (m:=Builtin.Tuple.tupleExact _) (J0 (J8 (J7 (J7 ⟨_,rfl,J7 h⟩))) G8)
  | exact J8 (J8 (m:=Builtin.Tuple.tupleExact _) (J0 (J7 (J7 ⟨_,rfl,J7 h⟩)) G8))
  | exact J8 (J8 (m:=Builtin.Tuple.tupleExact _) (J0 (J7 ⟨_,rfl,J7 h⟩) G8))
end
end HT
namespace L2
open PySem PySem.Spec PyProof.Rows
abbrev TO:=St->Hp->(Option Int->Hp->Prop)->Prop
def PO (X:Cx)(e:Option Expr)(t:TO):Prop :=
 ∀(pins:List (Addr×Obj)) (s:Shared) (σ:St) (H:Hp) (Q:Option Int->Hp->Prop),Inv X pins σ H s->t σ H Q->
  wpAny (model X.prog X.w) X.A (evalPart e X.env) (λu s'=>∃o H',Inv X pins σ H' s'/\IsPart u o/\Q o H') X.xe s
def ND:TO:=λ_ H Q=>Q none H
def SO (t:TE):TO:=λσ H Q=>t σ H λx H1=>∃i,x= .int i/\Q (some i) H1
section
variable {X:Cx}{e:Expr}{te:TE}{lo hi:Option Expr}{tl th:TO}{pos p2:Pos}
theorem NF:PO X none ND:=by
 intro pins s σ H Q I h
 rw[evalPart_none]
 exact J7 ⟨none,H,I,.none,h⟩
theorem NG (h:PE X e te):PO X (some e) (SO te):=by
 intro pins s σ H Q I hw
 rw[evalPart_some]
 refine eQ (h pins s σ H _ I hw) λu s1 ⟨x,H1,I1,r1,q1⟩=> ?_
 obtain⟨i,rfl,q⟩:=q1
 obtain⟨t,rfl⟩:=r1
 exact⟨some i,H1,I1,.int i t,q⟩
def Pr (X:Cx)(r:V->Option Int->Option Int->Hp->VK->Prop):Prop :=
 ∀(pins:List (Addr×Obj)) (s:Shared) (σ:St) (H:Hp) (x:V) (v vl vu:Value) (lo hi:Option Int) (sl:Addr) (Q:VK),Inv X pins σ H s->RelV x v->s.heap.IsSliceOf sl vl vu .none->IsPart vl lo->IsPart vu hi->r x lo hi H Q->
  ∃T id,typeLookup (.type T) "__getitem__" =pure (some (.builtin id))/\s.TypeIs v T/\wpAny (model X.prog X.w) X.A (getItem v (.ref sl)) (EP X pins σ Q) X.xe s
theorem Pr.or {r r':V->Option Int->Option Int->Hp->VK->Prop}(h:Pr X r)(h':Pr X r'):Pr X (λx lo hi H Q=>r x lo hi H Q∨r' x lo hi H Q):=by
 intro pins s σ H x v vl vu lo hi sl Q I rx hs pl pu q
 rcases q with q | q
 ·exact h pins s σ H x v vl vu lo hi sl Q I rx hs pl pu q
 ·exact h' pins s σ H x v vl vu lo hi sl Q I rx hs pl pu q
def WJ (r:V->Option Int->Option Int->Hp->VK->Prop)(te:TE)(tl th:TO):TE:=λσ H Q=>te σ H λx H1=>tl σ H1 λl H2=>th σ H2 λu H3=>r x l u H3 Q
theorem KN {r:V->Option Int->Option Int->Hp->VK->Prop}(hr:Pr X r)(he:PE X e te)(hl:PO X lo tl)(hu:PO X hi th):PE X (.Subscript e (.Slice lo hi none p2) pos) (WJ r te tl th):=by
 intro pins s σ H Q I h
 refine Subscript_ (eQ (he pins s σ H _ I h) λv s1 ⟨x,H1,I1,r1,q1⟩=> ?_)
 refine wpAny_Slice (eQ (hl pins s1 σ H1 _ I1 q1) λvl s2 ⟨l,H2,I2,pl,q2⟩=>eQ (hu pins s2 σ H2 _ I2 q2) λvu s3 ⟨u,H3,I3,pu,q3⟩=> ?_)
 rw[evalPart_none]
 refine J7 ?_
 have I4:Inv X pins σ H3 {s3 with heap:=s3.heap.push {cls:=.type "slice",data:=.fields #[vl,vu,.none]}}:=I3.kept (t':=s3.toks) λb ob q=>K6 _ q
 obtain⟨T,id,hT,ht,hg⟩:=hr pins {s3 with heap:=s3.heap.push {cls:=.type "slice",data:=.fields #[vl,vu,.none]}} σ H3 x v vl vu l u s3.heap.objs.size Q I4 r1 (Heap.IsSliceOf.new ..) pl pu q3
 show wpAny (model X.prog X.w) X.A (subscriptTail e (.Slice lo hi none p2) v (.ref s3.heap.objs.size)) (EP X pins σ Q) X.xe {s3 with heap:=s3.heap.push {cls:=.type "slice",data:=.fields #[vl,vu,.none]}}
 exact tail_any (ops:=[.ref s3.heap.objs.size,v]) ht hT hg (by with_unfolding_all rfl)
def Cd (xs:List V)(lo hi:Option Int):List V:=(xs.drop (HT.gq xs.length 0 lo)).take (HT.gq xs.length xs.length hi - HT.gq xs.length 0 lo)
theorem r_ (xs:List V)(lo hi:Option Int):(Cd xs lo hi).length<=xs.length:=by
 unfold Cd
 rw[Uk,List.length_drop]
 omega
def UP (K:Frag):V->Option Int->Option Int->Hp->VK->Prop:=λx lo hi H Q=>∃a xs,x= .ref a/\gz K H a xs/\
 ¬ (HT.gq xs.length 0 lo=0/\HT.gq xs.length xs.length hi=xs.length)/\∀p,H p=none->Q (.ref p) (upd H p (.tup (Cd xs lo hi)))
theorem Qw:Pr X (UP X.K):=by
 intro pins s σ H x v vl vu lo hi sl Q I rx hs pl pu h
 obtain⟨a,xs,rfl,hx,hw,q⟩:=h
 cases rx
 obtain⟨its,r,ht,hz⟩:=I.tuple hx
 have hlen:its.toArray.size=xs.length:=by rw[Kw];exact r.length.symm
 refine⟨"tuple",_,PyProof.Rows.slot_tuple_getitem.lookup,ht.typeIs,?_⟩
 refine HT.p5 ht hs pl pu (by rw[hlen];exact hw) ?_ (by rw[hlen];exact hz)
 rw[hlen]
 refine⟨.ref s.heap.objs.size,_,I.laid (t':=s.toks) (o:=.tup (Cd xs lo hi)) (λb ob q=>K6 _ q) (Ku _) ?_,rfl,q _ (I.hok.fresh (Ku _))⟩
 exact⟨Kq (r_ xs lo hi) hz,_,(r.drop (HT.gq xs.length 0 lo)).take (HT.gq xs.length xs.length hi - HT.gq xs.length 0 lo),IsTup.new _ _⟩
def SQ (K:Frag):R2:=λx y H Q=>∃a b xs ys,x= .ref a/\y= .ref b/\gz K H a xs/\gz K H b ys/\xs≠[]/\xs.length+ys.length<=sizeLine/\
 (ys=[]->Q (.ref a) H)/\(ys≠[]->∀p,H p=none->Q (.ref p) (upd H p (.tup (xs++ys))))
theorem Vals.uo {xs:List V}{us:List Value}(r:Vals xs us):us=[]↔xs=[]:=by
 cases r with
 | nil=>simp
 | cons _ _=>simp
theorem NH:qW X (binaryOp .Add) (SQ X.K):=by
 intro pins s σ H x y v u Q I rx ry h
 obtain⟨a,b,xs,ys,rfl,rfl,ha,hb,hx,hz,q1,q2⟩:=h
 cases rx
 cases ry
 obtain⟨its,r1,p1,_⟩:=I.tuple ha
 obtain⟨its2,r2,p2,_⟩:=I.tuple hb
 refine HT.NC p1 p2 (λz=>hx (r1.uo.mp z)) (λz=>⟨.ref a,H,I,rfl,q1 (r2.uo.mp z)⟩) (λz=> ?_) (by rw[←r1.length,←r2.length];exact hz)
 refine⟨.ref s.heap.objs.size,_,I.laid (t':=s.toks) (o:=.tup (xs++ys)) (λb ob q=>K6 _ q) (Ku _) ?_,rfl,q2 (λw=>z (r2.uo.mpr w)) _ (I.hok.fresh (Ku _))⟩
 exact⟨by rw[Kx];exact hz,_,r1.append r2,IsTup.new _ _⟩
end
def xq (n:Nat)(i:Int):Option Nat:=if 0<=i then (if i < n then some i.toNat else none) else if -(n:Int)<=i then some (i+n).toNat else none
def Qx {α:Type}(xs:List α)(i:Int):Option α:=(xq xs.length i).bind λj=>xs[j]?
theorem G9 {n:Nat}{i:Int}{j:Nat}(h:xq n i=some j):seqIndex? i n=some j/\j < n/\ -(n:Int)<=i/\i < n:=by
 unfold xq at h
 by_cases h0:0<=i
 ·rw[J5 h0] at h
  by_cases h1:i < n
  ·rw[J5 h1] at h
   have e:i.toNat=j:=Option.some.inj h
   exact⟨by rw[seqIndex_of h0 h1,e],by omega,by omega,h1⟩
  ·rw[J6 h1] at h;cases h
 ·rw[J6 h0] at h
  by_cases h1:-(n:Int)<=i
  ·rw[J5 h1] at h
   have e:(i+n).toNat=j:=Option.some.inj h
   exact⟨by rw[seqIndex_neg (by omega) h1,e],by omega,h1,by omega⟩
  ·rw[J6 h1] at h;cases h
theorem zn {α:Type}{xs:List α}{i:Int}{v:α}(h:Qx xs i=some v):∃j,seqIndex? i xs.length=some j/\xs[j]? =some v/\j < xs.length/\ -(xs.length:Int)<=i/\i < xs.length:=by
 unfold Qx at h
 cases e:xq xs.length i with
 | none=>rw[e] at h;cases h
 | some j=>
  rw[e] at h
  obtain⟨h1,h2,h3,h4⟩:=G9 e
  exact⟨j,h1,h,h2,h3,h4⟩
def G_ (b:Expr):Prop:=∀o i,subscripted b false o i=operate [o,i] (getItem o i)
def KO (X:Cx)(r:R2):Prop :=
 ∀(value slice:Expr) (pins:List (Addr×Obj)) (s:Shared) (σ:St) (H:Hp) (x y:V) (v u:Value) (Q:VK),Inv X pins σ H s->RelV x v->RelV y u->r x y H Q->
  subscripted slice false v u=operate [v,u] (getItem v u)->wpAny (model X.prog X.w) X.A (subscriptTail value slice v u) (EP X pins σ Q) X.xe s
def Qy (X:Cx)(id:String)(r:V->List V->Hp->VK->Prop):Prop :=
 ∀(pins:List (Addr×Obj)) (s:Shared) (σ:St) (H:Hp) (x:V) (xs:List V) (v:Value) (us:List Value) (Q:VK),Inv X pins σ H s->RelV x v->Vals xs us->r x xs H Q->
  wpAny (model X.prog X.w) X.A (call (.builtin id) (v :: us)) (EP X pins σ Q) X.xe s
section
variable {X:Cx}{a b:Expr}{ta tb:TE}{pos:Pos}
theorem KO.or {r r':R2}(h:KO X r)(h':KO X r'):KO X (λx y H Q=>r x y H Q∨r' x y H Q):=by
 intro value slice pins s σ H x y v u Q I rx ry q hs
 rcases q with q | q
 ·exact h value slice pins s σ H x y v u Q I rx ry q hs
 ·exact h' value slice pins s σ H x y v u Q I rx ry q hs
theorem Qy.or {id:String}{r r':V->List V->Hp->VK->Prop}(h:Qy X id r)(h':Qy X id r'):Qy X id (λx xs H Q=>r x xs H Q∨r' x xs H Q):=by
 intro pins s σ H x xs v us Q I rx rs q
 rcases q with q | q
 ·exact h pins s σ H x xs v us Q I rx rs q
 ·exact h' pins s σ H x xs v us Q I rx rs q
theorem SR {r:R2}(hr:KO X r)(ha:PE X a ta)(hb:PE X b tb)(hs:G_ b):PE X (.Subscript a b pos) (TX r ta tb):=by
 intro pins s σ H Q I h
 exact Subscript_ (Qi ha hb I h λv u s2 x y H2 I2 rx ry q=>hr a b pins s2 σ H2 x y v u Q I2 rx ry q (hs _ _))
def SU (K:Frag):R2:=λx y H Q=>∃p xs i v,x= .ref p/\y= .int i/\iV K H p xs/\Qx xs i=some v/\Q v H
def SV (K:Frag):R2:=λx y H Q=>∃p xs i v,x= .ref p/\y= .int i/\gz K H p xs/\Qx xs i=some v/\Q v H
def SW:R2:=λx y H Q=>∃z i c,x= .str z/\y= .int i/\z.length<=sizeLine/\Qx z.cps.toList i=some c/\Q (.str ⟨#[c]⟩) H
theorem NI:KO X (SU X.K):=by
 intro value slice pins s σ H x y v u Q I rx ry h hs
 obtain⟨p,xs,i,z,rfl,rfl,hq,he,q⟩:=h
 cases rx
 obtain⟨t,rfl⟩:=ry
 obtain⟨its,r,pl,hz⟩:=I.list hq
 obtain⟨j,h1,h2,h3,h4,h5⟩:=zn he
 obtain⟨w,ew,Il⟩:=r.get h2
 have hl:=r.length
 have hn:=m7
 have fin:EP X pins σ Q w s:=⟨z,H,I,Il,q⟩
 by_cases h0:0<=i
 ·have hj:i.toNat=j:=by
   rw[seqIndex_of h0 h5] at h1
   exact Option.some.inj h1
  exact item_listR pl.isList h0 (by omega) (by rw[hj];simpa using ew) fin hs
 ·have hj:(i+(its.toArray.size:Int)).toNat=j:=by
   rw[seqIndex_neg (by omega) h4] at h1
   rw[Kw,←hl]
   exact Option.some.inj h1
  exact subscriptTail_builtinR (x:=w) pl.isList.typeIs slot_list_getitem.lookup
   (wpAny_getItem_list_neg (Q:=λr s'=>r=w/\EP X pins σ Q r s') pl.isList (by omega) (by rw[Kw] <;> omega) (by omega) (by rw[hj];simpa using ew) ⟨rfl,fin⟩) hs
theorem Qz:KO X (SV X.K):=by
 intro value slice pins s σ H x y v u Q I rx ry h hs
 obtain⟨p,xs,i,z,rfl,rfl,hq,he,q⟩:=h
 cases rx
 obtain⟨t,rfl⟩:=ry
 obtain⟨its,r,pl,hz⟩:=I.tuple hq
 obtain⟨j,h1,h2,h3,h4,h5⟩:=zn he
 obtain⟨w,ew,Il⟩:=r.get h2
 have hl:=r.length
 have hn:=m7
 have fin:EP X pins σ Q w s:=⟨z,H,I,Il,q⟩
 exact subscriptTail_builtinR (x:=w) pl.typeIs slot_tuple_getitem.lookup
  (getItem_tuple (j:=j) (Q:=λr s'=>r=w/\EP X pins σ Q r s') pl (by omega) (by omega) (by rw[Kw,←hl];exact h1) (by simpa using ew) ⟨rfl,fin⟩) hs
theorem QA:KO X SW:=by
 intro value slice pins s σ H x y v u Q I rx ry h hs
 obtain⟨z,i,c,rfl,rfl,hz,he,q⟩:=h
 obtain⟨t,rfl⟩:=rx
 obtain⟨t',rfl⟩:=ry
 obtain⟨j,h1,h2,h3,h4,h5⟩:=zn he
 have hl:z.cps.toList.length=z.length:=by simp[Str.length]
 rw[hl] at h1 h4 h5
 have hn:=m7
 exact tail_any (typeIs_str s z t) slot_str_getitem.lookup (getItem_str (c:=c) (by
  have e1:decide (i < -(2^63:Int))=false:=J3 (by omega)
  have e2:decide (i≥2^63)=false:=J3 (by omega)
  rw[e1,e2,Bool.or_false]) (by rw[h1];simpa using h2) ⟨.str ⟨#[c]⟩,H,I.tok _,⟨_,rfl⟩,q⟩) hs
def WK (K:Frag):R2:=λx y H Q=>SU K x y H Q∨SV K x y H Q∨SW x y H Q
theorem QB:KO X (WK X.K):=NI.or (Qz.or QA)
theorem Fn (its:List Value)(n j:Nat)(u:Value):Obj.mapSeq (·.setIfInBounds j u) {cls:=.type "list",data:=.seq its.toArray n}={cls:=.type "list",data:=.seq (its.set j u).toArray n}:=by
 simp[Obj.mapSeq]
theorem Inv.lst {pins:List (Addr×Obj)}{σ:St}{H:Hp}{s:Shared}{p:Addr}{xs:List V}(I:Inv X pins σ H s)(h:H p=some (.lst xs)) :
  ∃(its:List Value) (n:Nat),Vals xs its/\s.heap.get? p=some {cls:=.type "list",data:=.seq its.toArray n}/\xs.length<=sizeLine:=by
 obtain⟨z,its,n,r,e⟩:=I.hok p _ h
 exact⟨its,n,r,e,z⟩
theorem Inv.QC {pins:List (Addr×Obj)}{σ:St}{H:Hp}{s:Shared}{p:Addr}{xs ys:List V}{its its':List Value}{n n':Nat}{f:Obj->Obj}(I:Inv X pins σ H s)(h:H p=some (.lst xs))
  (ho:s.heap.get? p=some {cls:=.type "list",data:=.seq its.toArray n}) (hf:f {cls:=.type "list",data:=.seq its.toArray n}={cls:=.type "list",data:=.seq its'.toArray n'}) (r:Vals ys its') (hz:ys.length<=sizeLine) (t:Nat) :
  Inv X pins σ (upd H p (.lst ys)) {s with heap:=s.heap.update p f,toks:=t}:=by
 have e:(s.heap.update p f).get? p=some {cls:=.type "list",data:=.seq its'.toArray n'}:=by
  rw[Xk f ho (by rw[hf] <;> rfl),hf]
 refine I.write (x:=p) (e:=p) (by rw[h];trivial) (.inl rfl) (λb u hb q=>(Y2 _ _ (Ne.symm hb)).trans q) ⟨_,e⟩ ?_
 exact⟨hz,its',n',r,e⟩
def SX:V->V->V->Hp->(Hp->Prop)->Prop:=λo i v H Q=>∃p xs k j,o= .ref p/\i= .int k/\H p=some (.lst xs)/\xq xs.length k=some j/\Q (upd H p (.lst (xs.set j v)))
theorem set_list:Qd X SX:=by
 intro pins s σ H o i v ov iv u Q I ro ri rv h
 obtain⟨p,xs,k,j,rfl,rfl,hp,hj,q⟩:=h
 cases ro
 obtain⟨t,rfl⟩:=ri
 obtain⟨its,n,r,ho,hz⟩:=I.lst hp
 obtain⟨h1,h2,h3,h4⟩:=G9 hj
 have hl:=r.length
 have hn:=m7
 have I':Inv X pins σ (upd H p (.lst (xs.set j v))) {s with heap:=s.heap.update p (Obj.mapSeq (·.setIfInBounds j u))} :=
  I.QC hp ho (Fn its n j u) (r.set rv j) (by rw[U7];exact hz) s.toks
 by_cases h0:0<=k
 ·have hk:k.toNat=j:=by
   rw[seqIndex_of h0 h4] at h1
   exact Option.some.inj h1
  exact PySem.W.ki_setAt ho h0 (by omega) (by rw[Kw,←hl];exact h4) (by rw[hk];exact⟨_,I',q⟩)
 ·have hk:(k+(its.toArray.size:Int)).toNat=j:=by
   rw[seqIndex_neg (by omega) h3] at h1
   rw[Kw,←hl]
   exact Option.some.inj h1
  exact PySem.W.ki_setBack ho (by omega) (by rw[Kw,←hl];exact h3) (by omega) (by rw[hk];exact⟨_,I',q⟩)
theorem zo (lo hi:Option Int)(n:Nat):(sliceBounds lo hi none n).1=((HT.gq n 0 lo:Nat):Int)/\(sliceBounds lo hi none n).2.1=((HT.gq n n hi:Nat):Int)/\(sliceBounds lo hi none n).2.2=1:=by
 refine⟨?_,?_,rfl⟩
 ·cases lo with
  | none=>simp[sliceBounds,HT.gq]
  | some i=>
   simp only[sliceBounds,HT.gq,Option.getD_none,show(1:Int) > 0 by decide,if_true]
   by_cases h:i < 0
   ·simp only[h,if_true] <;> omega
   ·simp only[h,if_false] <;> omega
 ·cases hi with
  | none=>simp[sliceBounds,HT.gq]
  | some i=>
   simp only[sliceBounds,HT.gq,Option.getD_none,show(1:Int) > 0 by decide,if_true]
   by_cases h:i < 0
   ·simp only[h,if_true] <;> omega
   ·simp only[h,if_false] <;> omega
theorem xr (its:List Value)(lo hi:Option Int):slicePick its.toArray lo hi none=((its.drop (HT.gq its.length 0 lo)).take (HT.gq its.length its.length hi - HT.gq its.length 0 lo)).toArray:=by
 obtain⟨h1,h2,h3⟩:=zo lo hi its.toArray.size
 unfold slicePick
 rw[h1,h2,h3]
 simp only[sliceRange_one,pick_run,Kw] <;> rfl
def UR (K:Frag):V->Option Int->Option Int->Hp->VK->Prop:=λx lo hi H Q=>∃a xs,x= .ref a/\iV K H a xs/\∀p,H p=none->Q (.ref p) (upd H p (.lst (Cd xs lo hi)))
theorem NJ:Pr X (UR X.K):=by
 intro pins s σ H x v vl vu lo hi sl Q I rx hs pl pu h
 obtain⟨a,xs,rfl,hx,q⟩:=h
 cases rx
 obtain⟨its,r,ht,hz⟩:=I.list hx
 have hlen:=r.length
 refine⟨"list",_,slot_list_getitem.lookup,ht.isList.typeIs,?_⟩
 refine wpAny_getItem_list_slice ht.isList hs pl pu .none (by simp) ?_ (by rw[Kw] <;> omega)
 rw[xr,←hlen]
 refine⟨.ref s.heap.objs.size,_,I.laid (t':=s.toks) (o:=.lst (Cd xs lo hi)) (λb ob q=>K6 _ q) (Ku _) ?_,rfl,q _ (I.hok.fresh (Ku _))⟩
 exact⟨Kq (r_ xs lo hi) hz,_,0,(r.drop (HT.gq xs.length 0 lo)).take (HT.gq xs.length xs.length hi - HT.gq xs.length 0 lo),Kz _ rfl⟩
theorem zp:kz X (.builtin "len") (λxs H Q=>∃p ys,xs=[.ref p]/\(iV X.K H p ys∨gz X.K H p ys)/\Q (.int ys.length) H):=by
 intro pins s σ H xs us Q I r h
 obtain⟨p,ys,rfl,hq,q⟩:=h
 obtain⟨u,rfl,rx⟩:=vals1 r
 cases rx
 have hn:=m7
 rcases hq with hq | hq
 ·obtain⟨its,r',pl,hz⟩:=I.list hq
  have hlen:=r'.length
  exact Calls.call_len_list pl.isList (by simp only[Kw] <;> omega) ⟨.int ys.length,H,I.tok _,⟨s.toks+1,by rw[Kw,hlen]⟩,q⟩
 ·obtain⟨its,r',pl,hz⟩:=I.tuple hq
  have hlen:=r'.length
  exact len_tuple pl (by simp only[Kw] <;> omega) ⟨.int ys.length,H,I.tok _,⟨s.toks+1,by rw[Kw,hlen]⟩,q⟩
theorem zq:kz X (.builtin "len") (λxs H Q=>∃z,xs=[.str z]/\z.length<=sizeLine/\Q (.int z.length) H):=by
 intro pins s σ H xs us Q I r h
 obtain⟨z,rfl,hz,q⟩:=h
 obtain⟨u,rfl,t,rfl⟩:=vals1 r
 have hn:=m7
 exact len_str (by omega) ⟨.int z.length,H,I.tok _,⟨_,rfl⟩,q⟩
theorem kz.or {f:Value}{r r':List V->Hp->VK->Prop}(h:kz X f r)(h':kz X f r'):kz X f (λxs H Q=>r xs H Q∨r' xs H Q):=by
 intro pins s σ H xs us Q I rs q
 rcases q with q | q
 ·exact h pins s σ H xs us Q I rs q
 ·exact h' pins s σ H xs us Q I rs q
theorem zr:kz X (.type "list") (λxs H Q=>∃p ys,xs=[.ref p]/\(iV X.K H p ys∨gz X.K H p ys)/\∀l,H l=none->Q (.ref l) (upd H l (.lst ys))):=by
 intro pins s σ H xs us Q I r h
 obtain⟨p,ys,rfl,hq,q⟩:=h
 obtain⟨u,rfl,rx⟩:=vals1 r
 cases rx
 have fin:∀(its:List Value),Vals ys its->ys.length<=sizeLine->∀(h':Heap) (c':Nat),(∀b o',s.heap.get? b=some o'->h'.get? b=some o')->
   h'.get? s.heap.objs.size=some {cls:=.type "list",dict:=none,data:=.seq its.toArray c',slots:=#[]}->EP X pins σ Q (.ref s.heap.objs.size) {s with heap:=h'}:=λits r' hz h' c' kp e=>
  ⟨.ref s.heap.objs.size,_,I.laid (t':=s.toks) kp (Ku _) (show gk X.prog X.w _ h' _ (.lst ys) from⟨hz,its,c',r',e⟩),rfl,q _ (I.hok.fresh (Ku _))⟩
 rcases hq with hq | hq
 ·obtain⟨its,r',pl,hz⟩:=I.list hq
  have hlen:=r'.length
  obtain⟨o,ho,hc,n,hd⟩:=pl.isList
  exact call_list_seq p (.inl rfl) ho hc hd (λh' c' kp e=>fin its r' hz h' c' kp e) (by simp only[Kw] <;> omega)
 ·obtain⟨its,r',pl,hz⟩:=I.tuple hq
  have hlen:=r'.length
  obtain⟨o,ho,hc,n,hd⟩:=pl
  exact call_list_seq p (.inr rfl) ho hc hd (λh' c' kp e=>fin its r' hz h' c' kp e) (by simp only[Kw] <;> omega)
theorem xt:kz X (.type "tuple") (λxs H Q=>∃p ys,xs=[.ref p]/\((iV X.K H p ys/\∀l,H l=none->Q (.ref l) (upd H l (.tup ys)))∨(gz X.K H p ys/\Q (.ref p) H))):=by
 intro pins s σ H xs us Q I r h
 obtain⟨p,ys,rfl,h⟩:=h
 obtain⟨u,rfl,rx⟩:=vals1 r
 cases rx
 rcases h with⟨hq,q⟩ | ⟨hq,q⟩
 ·obtain⟨its,r',pl,hz⟩:=I.list hq
  have hlen:=r'.length
  refine call_tuple_list pl.isList (λh' kp=> ?_) (by simp only[Kw] <;> omega)
  have I1:Inv X pins σ H {s with heap:=h'}:=I.kept (t':=s.toks) kp
  have I2:Inv X pins σ (upd H h'.objs.size (.tup ys)) {s with heap:=h'.push {cls:=.type "tuple",data:=.seq its.toArray}} :=
   I1.laid (t':=s.toks) (λb o e=>K6 _ e) (Ku _) (show gk X.prog X.w _ _ _ (.tup ys) from⟨hz,its,r',IsTup.new _ _⟩)
  exact⟨.ref h'.objs.size,_,I2,rfl,q _ (I1.hok.fresh (Ku _))⟩
 ·obtain⟨its,r',pl,hz⟩:=I.tuple hq
  exact call_tuple_same pl ⟨.ref p,H,I,rfl,q⟩
def V2 (K:Frag)(T:String)(x:V)(H:Hp):Prop:=match x with
 | .str _=>T= "str"
 | .int _=>T= "int"
 | .ref p=>(T= "list" /\∃xs,iV K H p xs)∨(T= "tuple" /\∃o,K.lookup p=some o/\o.cls= .type "tuple" /\o.dict=none)∨
   (T= "dict" /\((∃kvs,H p=some (.dK kvs))∨∃kvs,H p=some (.dT kvs)))∨(T= "set" /\∃S n,H p=some (.set S n))
 | _=>False
theorem QD {pins:List (Addr×Obj)}{σ:St}{H:Hp}{s:Shared}{T:String}{x:V}{v:Value}(I:Inv X pins σ H s)(r:RelV x v)(ty:V2 X.K T x H) :
  s.TypeIs v T/\∀a,v= .ref a->∃ob,s.heap.get? a=some ob/\ob.dict=none:=by
 cases x with
 | str z=>
  obtain⟨t,rfl⟩:=r
  cases(show T= "str" from ty)
  exact⟨typeIs_str s z t,λ_ e=>nomatch e⟩
 | int i=>
  obtain⟨t,rfl⟩:=r
  cases(show T= "int" from ty)
  exact⟨typeIs_int s i t,λ_ e=>nomatch e⟩
 | ref p=>
  cases r
  rcases ty with⟨rfl,xs,hq⟩ | ⟨rfl,o,hk,hc,hd⟩ | ⟨rfl,hk⟩ | ⟨rfl,S,n,hk⟩
  ·obtain⟨its,_,pl,_⟩:=I.list hq
   refine⟨pl.isList.typeIs,λa e=> ?_⟩
   cases e
   obtain⟨o,n,e,c,hd,_⟩:=pl
   exact⟨o,e,hd⟩
  ·refine⟨⟨o,I.Ie p o hk,hc⟩,λa e=> ?_⟩
   cases e
   exact⟨o,I.Ie _ o hk,hd⟩
  ·have z:∃o,s.heap.get? p=some o/\o.ExactDict:=by
    rcases hk with⟨kvs,hk⟩ | ⟨kvs,hk⟩
    ·obtain⟨_,_,_,_,o,_,_,e,ex,_⟩:=I.hok p _ hk
     exact⟨o,e,ex⟩
    ·obtain⟨_,_,_,_,o,_,_,e,ex,_⟩:=I.hok p _ hk
     exact⟨o,e,ex⟩
   obtain⟨o,e,ex⟩:=z
   refine⟨⟨o,e,ex.1⟩,λa e2=> ?_⟩
   cases e2
   exact⟨o,e,ex.2.1⟩
  ·obtain⟨o,_,_,_,e,ex,_⟩:=I.hok p _ hk
   refine⟨⟨o,e,ex.1⟩,λa e2=> ?_⟩
   cases e2
   exact⟨o,e,ex.2.1⟩
 | _=>exact False.elim ty
def WL (K:Frag)(T:String)(r:V->List V->Hp->VK->Prop)(to:TE)(t:TA):TE:=λσ H Q=>to σ H λx H1=>V2 K T x H1/\t σ H1 λxs H2=>r x xs H2 Q
variable {o e:Expr}{es:List Expr}{to:TE}{t:TA}{name:Str}{apos cpos:Pos}{T id:String}{r:V->List V->Hp->VK->Prop}
theorem Ha (pa:PlainAttrs T)(slot:Slot T name id)(hty:typeOf (.builtin id)=pure (.type "method_descriptor"))(hm:Qy X id r)(ho:PE X o to)(ha:PA X (e :: es) t)
  (hbase:attributeBase o name X.env (eval o X.env)=eval o X.env:=by rfl)
  (hfew:((backTo cpos (starEach (e :: es) X.env)).all (λx=> !x.1) && (backToKw cpos (keywordEach [] X.env)).all (λx=>x.1.isSome)
   && decide ((e :: es).length+([]:List Keyword).length+(if ([]:List Keyword).isEmpty then 0 else 1) < 30))=true:=by rfl)
  (hline:(apos.endLine==cpos.line)=true:=by rfl) (hs:starEach (e :: es) X.env=(false,eval e X.env) :: starEach es X.env:=by rfl) (hplain:(backTo cpos (starEach es X.env)).any (·.1)=false:=by rfl) :
  PE X (.Call (.Attribute o name apos) (e :: es) [] cpos) (WL X.K T r to t):=by
 intro pins s σ H Q I h
 refine wpAny_Call_method_late hbase hfew hline rfl (eQ (ho pins s σ H _ I h) λv s1 ⟨x,H1,I1,r1,ty,q1⟩=> ?_)
 obtain⟨h1,h2⟩:=QD I1 r1 ty
 refine⟨T,id,pa,slot,hty,h1,h2,?_⟩
 have hA:=ha cpos pins s1 σ H1 _ I1 q1
 rw[hs] at hA⊢
 refine Calls.callWith_builtin (by show(false || (backTo cpos (starEach es X.env)).any (·.1))=false;rw[hplain] <;> rfl) (Calls.evalArgs_plain ?_)
 exact eQ hA λus s2 ⟨vs,H2,I2,r2,q2⟩=>hm pins s2 σ H2 x vs v us Q I2 r1 r2 q2
/- xs.append(e),list.index on a module's tuple .. are Qy facts of 06m -/
end
def TY (X:Cx)(id:String)(r:V->List V->Hp->VK->Prop):Prop :=
 ∀(pins:List (Addr×Obj)) (s:Shared) (σ:St) (H:Hp) (x:V) (xs:List V) (v:Value) (us:List Value) (Q:VK),Inv X pins σ H s->RelV x v->Vals xs us->r x xs H Q->
  wpAny (model X.prog X.w) X.A (call (.builtin id) (v :: us)) (EP X pins σ Q) X.xe s
theorem Vals.one:∀{x:V} {us:List Value},Vals [x] us->∃u,us=[u]/\RelV x u
 | _,_,.cons r .nil=>⟨_,rfl,r⟩
theorem Vals.two:∀{x y:V} {us:List Value},Vals [x,y] us->∃u v,us=[u,v]/\RelV x u/\RelV y v
 | _,_,_,.cons r (.cons q .nil)=>⟨_,_,rfl,r,q⟩
theorem Vals.zero:∀{us:List Value},Vals [] us->us=[]
 | _,.nil=>rfl
theorem Vals.dropLast {xs:List V}{us:List Value}(h:Vals xs us):Vals xs.dropLast us.dropLast:=by
 induction h with
 | nil=>exact .nil
 | cons r t ih=>
  cases t with
  | nil=>exact .nil
  | cons q t'=>exact .cons r ih
theorem Vals.eraseIdx:∀{xs:List V} {us:List Value} (i:Nat),Vals xs us->Vals (xs.eraseIdx i) (us.eraseIdx i)
 | _,_,_,.nil=> .nil
 | _,_,0,.cons _ t=>t
 | _,_,i+1,.cons r t=> .cons r (Vals.eraseIdx i t)
theorem Vals.reverse {xs:List V}{us:List Value}(h:Vals xs us):Vals xs.reverse us.reverse:=by
 induction h with
 | nil=>exact .nil
 | cons r t ih=>rw[Y3,Y3];exact Vals.append ih (.cons r .nil)
theorem Vals.rep {xs:List V}{us:List Value}(h:Vals xs us):∀k:Nat,Vals (List.replicate k xs).flatten (List.replicate k us).flatten
 | 0=> .nil
 | k+1=>by
  rw[U6,U6,UJ,UJ]
  exact Vals.append h (Vals.rep h k)
theorem foldl_rep (its:List Value):∀(k:Nat) (acc:List Value),
  List.foldl (λx1 x2=>x1++x2) acc.toArray (List.replicate k its.toArray)=(acc++(List.replicate k its).flatten).toArray
 | 0,acc=>by simp
 | k+1,acc=>by
  have e:acc.toArray++its.toArray=(acc++its).toArray:=by simp
  have e2:(acc++its)++(List.replicate k its).flatten=acc++(List.replicate (k+1) its).flatten:=by
   rw[U6,UJ,Xj]
  rw[←e2,←foldl_rep its k (acc++its),←e,U6,Y7]
section
variable {X:Cx}{pins:List (Addr×Obj)}{σ:St}{H:Hp}{s:Shared}{l b:Addr}{xs ys zs:List V}
theorem Inv.SY {its its':List Value}{n:Nat}{f:Array Value->Array Value}{t':Nat}(I:Inv X pins σ H s)(hH:H l=some (.lst xs))
  (e:s.heap.get? l=some {cls:=.type "list",data:=.seq its.toArray n}) (hf:f its.toArray=its'.toArray) (hv:Vals ys its') (hz:ys.length<=sizeLine) :
  Inv X pins σ (upd H l (.lst ys)) {s with heap:=s.heap.update l (Obj.mapSeq f),toks:=t'}:=by
 have q:=PySem.IsL.update e f
 rw[hf] at q
 refine I.write (x:=l) (e:=l) (by rw[hH];exact trivial) (.inl rfl) (λb' u hb hu=>(Y2 s.heap (Obj.mapSeq f) (Ne.symm hb)).trans hu) ⟨_,q⟩ ?_
 exact⟨hz,its',_,hv,q⟩
theorem Inv.SZ {its:List Value}{t':Nat}(I:Inv X pins σ H s)(hv:Vals ys its)(hz:ys.length<=sizeLine) :
  Inv X pins σ (upd H s.heap.objs.size (.lst ys)) {s with heap:=s.heap.push {cls:=.type "list",data:=.seq its.toArray},toks:=t'} :=
 I.laid (λ_ _ q=>K6 _ q) (Ku _) ⟨hz,its,0,hv,Kz _ rfl⟩
theorem Inv.fresh (I:Inv X pins σ H s):H s.heap.objs.size=none:=I.hok.fresh (Ku _)
theorem Inv.QE (I:Inv X pins σ H s)(hH:H l=some (.lst xs)):xs.length<=sizeLine/\∃(its:List Value) (n:Nat),Vals xs its/\xs.length=its.length/\s.heap.get? l=some {cls:=.type "list",data:=.seq its.toArray n}:=by
 obtain⟨z,its,n,r,e⟩:=I.hok l _ hH
 exact⟨z,its,n,r,r.length,e⟩
theorem Ce {n:Nat}(h:n<=sizeLine):Builtin.List.listTooLong n=false:=by
 unfold Builtin.List.listTooLong
 exact J3 (by omega)
end
section
variable {X:Cx}
def NL:V->List V->Hp->VK->Prop:=λx vs H Q=>∃l xs y,x= .ref l/\vs=[y]/\H l=some (.lst xs)/\xs.length < sizeLine/\Q .non (upd H l (.lst (xs++[y])))
theorem qZ:TY X "list.append" NL:=by
 intro pins s σ H x vs v us Q I rx rv h
 obtain⟨l,xs,y,rfl,rfl,hH,hz,q⟩:=h
 cases rx
 obtain⟨u,rfl,ru⟩:=rv.one
 obtain⟨z,its,n,r,hl,e⟩:=I.QE hH
 refine call_meets F.slot_list_append ⟨_,e,rfl⟩ F.entry_list_append (F.args_list_append_2 _ _) (PySem.list_append l its.toArray n u (by rw[Kw];omega)) ⟨e,?_⟩
 refine⟨.non,_,I.SY (its':=its++[u]) hH e (by simp) (r.append (.cons ru .nil)) ?_,rfl,q⟩
 rw[Kx,X8]
 omega
def US:R2:=λx y H Q=>∃l k xs,x= .ref l/\y= .int k/\H l=some (.lst xs)/\ -(2^63)<=k/\k < 2^63/\xs.length*k.toNat<=sizeLine/\
 ∀p,H p=none->Q (.ref p) (upd H p (.lst (List.replicate k.toNat xs).flatten))
theorem len_rep {α:Type}(xs:List α)(k:Nat):(List.replicate k xs).flatten.length=k*xs.length:=by
 induction k with
 | zero=>simp
 | succ k ih=>rw[U6,UJ,Kx,ih,UX,Nat.add_comm]
theorem QF:qW X (binaryOp .Mult) US:=by
 intro pins s σ H x y v u Q I rx ry h
 obtain⟨l,k,xs,rfl,rfl,hH,h1,h2,hz,q⟩:=h
 cases rx
 obtain⟨t,rfl⟩:=ry
 obtain⟨z,its,n,r,hl,e⟩:=I.QE hH
 have hlen:its.toArray.size*k.toNat<=sizeLine:=by rw[Kw,←hl];exact hz
 have hcap:¬ its.toArray.size*k.toNat > (2^63 - 1) / 8:=by
  have:(sizeLine:Nat)<=(2^63 - 1) / 8:=by decide
  omega
 have hfit:¬ (!Builtin.List.listFitsIndex k)=true:=by
  rw[fitsIndex_both h1 h2]
  exact K3
 have KP:¬ Builtin.List.listTooLong (its.toArray.size*k.toNat)=true:=by
  rw[Ce hlen]
  exact K3
 have hnew:List.foldl (λx1 x2=>x1++x2) #[] (List.replicate (if its.toArray.isEmpty=true then 0 else k.toNat) its.toArray)=(List.replicate k.toNat its).flatten.toArray:=by
  have f0:∀m:Nat,List.foldl (λx1 x2=>x1++x2) #[] (List.replicate m its.toArray)=(List.replicate m its).flatten.toArray:=λm=>by
   have:=foldl_rep its m []
   rw[Y4] at this
   exact this
  rw[f0]
  cases its with
  | nil=>simp
  | cons a r'=>rw[J6 (by simp)]
 refine wpAny_binaryOp_repeat_ref (T:="list") (U:="int") (by decide) ⟨_,e,rfl⟩ (λs'=>typeIs_int s' k t) noFill_list_mul F.fills_int_mul F.slot_int_rmul repeat_list F.slot_int_index.lookup
  (call_meets F.slot_int_rmul (typeIs_int s k t) F.entry_int_rmul (F.args_int_rmul_2 _ _) (int___rmul___int_list k t l its.toArray n)
   ⟨e,rfl,⟨_,e,rfl⟩,call_meets F.slot_list_mul ⟨_,e,rfl⟩ F.entry_list_mul (F.args_list_mul_2 _ _) (AutoListH.list___mul___list_int_3 l its.toArray n k t hfit hcap KP) ⟨e,?_⟩⟩)
 rw[hnew]
 exact⟨.ref _,_,I.SZ (t':=s.toks) (r.rep k.toNat) (by rw[len_rep,Yk];exact hz),rfl,q _ I.fresh⟩
end
end L2
namespace V3
open PySem PySem.W PySem.Calls PyProof.Rows
theorem sG {P:Params}{h:Heap}:∀(ns:List Int) (vs:List Value),WellAll P h vs (ns.map WData.int)->IntsAre vs ns:=by
 intro ns
 induction ns with
 | nil=>
  intro vs w
  rw[Yx] at w
  cases w
  exact .nil
 | cons n ns ih=>
  intro vs w
  rw[KZ] at w
  cases w with
  | cons a b=>
   cases a
   exact .cons _ _ (ih _ b)
theorem Im {l:OpenLaw}{n:Nat}(hn:l.most=some n){P:Params}{h:Heap}{args:List WData}{vals:List Value}
  (hpre:l.row.toRowW.claim.pre args=true) (hwl:WellAll P h vals args) :
  ∃a vs ns,vals=[Value.ref a]/\args=[WData.list (ns.map WData.int)]/\h.get? a=some {cls:=.type "list",data:=.seq vs.toArray}/\IntsAre vs ns/\ns.length<=n:=by
 have hsh:WShape.hasAll [] args [.list .int]=true:=(pre_splitW hpre).1
 have hc:l.pre.holds [] {args:=args}=true:=(pre_splitW hpre).2
 obtain⟨d,r,rfl,h1,h2⟩:=hasAllW_cons hsh
 obtain rfl:=hasAllW_nil h2
 obtain⟨xs,rfl,h3⟩:=hasW_list h1
 obtain⟨ns,rfl⟩:=items_int h3
 have hlen:ns.length<=n:=by
  unfold OpenLaw.pre at hc
  have h4:(WTm.not (.lt (.lit (.int (n:Int))) (.len (.arg 0)))).holds [] {args:=[.list (ns.map .int)]}=true:=by
   have h4:=(holds_andW hc).1
   rw[hn] at h4
   exact h4
  have h5:=condW_of h4 (w_not (w_lt w_lit (w_len_list (w_arg rfl))))
  rw[K4] at h5
  refine Nat.le_of_not_lt λq=> ?_
  have q':(n:Int) < ((ns.length:Nat):Int):=by omega
  first
   | (rw[J4 q'] at h5;exact absurd h5 (by decide))
   | (simp at h5;omega)
 cases hwl with
 | cons w1 w2=>
  cases w2
  cases w1 with
  | list ho hall=>exact⟨_,_,ns,rfl,rfl,ho,sG ns _ hall,hlen⟩
theorem Io (l:OpenLaw)(args:List WData):l.row.toRowW.claim.post args (.bool true) args=true :=
 postW_of (r:=l.row.toRowW) (X:=(true==true))
  (show WShape.has [] (.bool true) .bool=true by first | rfl | decide | simp[WShape.has,WShape.arms,WShape.armsAll])
  (show(WTm.eq .res (.lit (.bool true))).value [] {args:=args,res:=some (.bool true),after:=args}=some (.bool (true==true)) from w_eq_bool (w_res rfl) w_lit) rfl
theorem Cf {l:OpenLaw}{n:Nat}{q:Program}{loose:List Str}{XP:(Str->Option Value)->Heap->Prop}{YP:World->Heap->Prop}{d:DefRec}
  (hn:l.most=some n) (hdf:d.params.defaults=[])
  (call:∀(w:World) (s₀ s₁:Shared) (mg mb:Str->Option Value) (fa:Addr) (o:Obj) (pm cd doc:Value) (a:Addr) (vs:List Value) (ns:List Int),
   Ground q loose [] XP w s₀ mg mb s₁.heap->YP w s₁.heap->
   s₁.heap.get? fa=some o->o.data= .func (docDef d.name d.params d.body d.scope pm cd doc)->s₁.heap.CodeRec cd d.name->mg d.name=some (.ref fa)->
   s₁.heap.get? a=some {cls:=.type "list",data:=.seq vs.toArray}->IntsAre vs ns->ns.length<=n->s₁.gens= #[]->
   codeAny (model l.prog w) callerA (.call (.ref fa) ⟨[.ref a],[]⟩) (λr s'=>r= .ok (.ret (.bool true))/\OldK s₁.heap s'.heap/\s'.os=s₁.os/\AllBare s'.gens) s₁) :
  WalkO q loose XP YP l.row.toRowW d [] (λf vs=>PySem.call f vs):=by
 intro w s₀ s₁ mg mb G Y fa o pm cd doc dV kV ho hd hcd hD hmg hg args vals as hpre hlay hrd hwl hlo
 obtain rfl:dV= .none:=Dflts.none hD hdf
 obtain rfl:kV= .none:=Dflts.noKw hD
 obtain⟨a,vs,ns,rfl,rfl,hobj,hints,hlen⟩:=Im hn hpre hwl
 refine enter_call (codeAny_mono (call w s₀ s₁ mg mb fa o pm cd doc a vs ns G Y ho (fd_plain hd) hcd hmg hobj hints hlen hg) λr s' hq=> ?_)
 obtain⟨rfl,h2,h3,h4⟩:=hq
 exact⟨.inl ⟨.bool true,.bool true,[],rfl,λ_=>rfl,.bool true,Io l _,λ_=>⟨List.Pairwise.nil,λ_ hm=>(nomatch hm)⟩⟩,h2,h3,h4⟩
section
variable {prog:Program}{w:World}{A:Around}{E:Jx}{s:Shared}{K:Frag}
def ledger (h:Heap)(L d:Addr):List (Addr×Obj):=(List.range h.objs.size).filterMap λa=>if a=L∨a=d then none else (h.get? a).map λo=>(a,o)
end
end V3
namespace L2
open PySem PySem.Spec PyProof.Rows
theorem yu:∀{vs:List Value} {ns:List Int},IntsAre vs ns->Vals (ns.map V.int) vs
 | _,_,.nil=> .nil
 | _,_,.cons n t h=> .cons ⟨t,rfl⟩ (yu h)
def Only (H:Hp):Prop:=∀b,H b=none∨∃o xs,H b=some (.Kl o (.lst xs))
theorem KR {P:Program}{w:World}{K:Frag}{mg mb:Str->Option Value}{CX:G5}{k:Nat}{fa a:Addr}{fd:FuncData}{x:Str}{sp:Sp}{s₁:Shared}{vs:List Value}{ns:List Int}
  (KX:K.In s₁.heap) (hns:s₁.heap.Ns mainGlobals mg) (hb:s₁.heap.Ns builtinsNs mb) (hbb:∀x:Str,x≠ "__name__" ->mb x=bootBuiltins x) (hlim:s₁.heap.NoLimit) (hg:s₁.gens= #[])
  (ha:s₁.heap.get? a=some {cls:=.type "list",data:=.seq vs.toArray}) (hi:IntsAre vs ns) (hl:ns.length<=sizeLine) (hr:hX k callerA)
  (F:∀base:Heap,K.In base->base.Ns mainGlobals mg->cu P w K mg base CX k fa fd [x] sp) (hbind:∀(s:Shared) (u:Value),BindsTo s fd ⟨[u],[]⟩ [(x,u)])
  (hsp:∀H:Hp,Only H->iV K H a (ns.map V.int)->sp [.ref a] H (λv _=>v= .bl true) λ_ _ _=>False)
  (UT:∀H e s',CX [] H s₁ (λ_ _ _=>False) e s'->False) :
  codeAny (model P w) callerA (.call (.ref fa) ⟨[.ref a],[]⟩) (λr s'=>r= .ok (.ret (.bool true))/\OldK s₁.heap s'.heap/\s'.os=s₁.os/\AllBare s'.gens) s₁:=by
 have rv:=yu hi
 have lenV:=hi.length
 have core:∀H:Hp,Only H->iV K H a (ns.map V.int)->ul P w H s₁.heap->(∀b,H b≠none->b=a)->(H a≠none->K.lookup a=none)->
   codeAny (model P w) callerA (.call (.ref fa) ⟨[.ref a],[]⟩) (λr s'=>r= .ok (.ret (.bool true))/\OldK s₁.heap s'.heap/\s'.os=s₁.os/\AllBare s'.gens) s₁:=by
  intro H hO hS hok hA hK
  have Hb:∀{b:Addr} {o:Obj},s₁.heap.get? b=some o->H b=none->(zj s₁.heap H).get? b=some o:=λe n=>Kn e n
  have SM:∀{b:Addr} {o:Obj} {es:Array DictEntry} {ep:Nat},s₁.heap.get? b=some o->o.data= .dict es ep->H b=none:=λ{b o es ep} e d=>by
   cases q:H b with
   | none=>rfl
   | some u=>
    have e':b=a:=hA b (by rw[q];simp)
    subst e'
    rw[ha] at e;cases e
    have d':Data.seq vs.toArray _=Data.dict es ep:=d
    cases d'
  have TZ:∀{b:Addr} {m:Str->Option Value},s₁.heap.Ns b m->(zj s₁.heap H).Ns b m:=λ{b m} ⟨o,es,ep,e,d,r⟩=>⟨o,es,ep,Hb e (SM e d),d,r⟩
  have V4:K.In (zj s₁.heap H):=λb o e=>Hb (KX b o e) (by
   cases q:H b with
   | none=>rfl
   | some u=>
    have e':b=a:=hA b (by rw[q];simp)
    subst e'
    rw[hK (by rw[q];simp)] at e;cases e)
  have hM:Mod K mg (zj s₁.heap H):=⟨V4,TZ hns,⟨mb,TZ hb,hbb⟩,let ⟨mc,h1,h2⟩:=hlim;⟨mc,TZ h1,h2⟩⟩
  have e0:xp P w K mg (zj s₁.heap H) callerA [] s₁ H:=⟨rfl,hM,λb o e=>Nt e,Nat.le_of_eq (Ib _ _),trivial,λb hb=>absurd (show b∈([]:List Addr) from hb) (by simp),hok,.of_eq hg⟩
  refine codeAny_mono ((F _ V4 (TZ hns)).run callerA [] s₁ H ⟨[.ref a],[]⟩ [.ref a] [.ref a] _ _ hr e0 (hbind s₁ (.ref a)) (.cons rfl .nil) (hsp H hO hS)) λr s' h=> ?_
  cases r with
  | error e=>exact(UT H e s' h).elim
  | ok fl=>
   cases fl with
   | next=>exact False.elim h
   | brk=>exact False.elim h
   | cont=>exact False.elim h
   | ret u=>
    obtain⟨v,H',os,bare,un,hok',r',q⟩:=h
    have q':v= .bl true:=q
    subst q'
    obtain rfl:u=Value.bool true:=r'
    refine⟨rfl,OldK.of_keep λb o e=> ?_,os,bare⟩
    cases q:H b with
    | none=>exact un.keep b o e q (by intro z;exact absurd (show b∈([]:List Addr) from z) (by simp)) (by simp)
    | some u=>
     rcases hO b with z | ⟨ob,xs,z⟩
     ·rw[q] at z;cases z
     ·have z2:=un.pb b ob _ z
      obtain⟨e1,_⟩:=hok b _ z
      obtain⟨e2,_⟩:=hok' b _ z2
      rw[e] at e1;cases e1
      exact e2
 cases hk:K.lookup a with
 | some o=>
  have e:=KX a o hk
  rw[ha] at e
  cases e
  refine core (λ_=>none) (λ_=> .inl rfl) (.inr ⟨_,vs.toArray,_,hk,rfl,rfl,rfl,by rw[Kw,lenV];exact hl,by simpa using rv⟩) (λb u z=>by have z':(none:Option HO)=some u:=z;cases z') (λb z=>absurd rfl z) λz=>absurd rfl z
 | none=>
  refine core (λb=>if b=a then some (.Kl {cls:=.type "list",data:=.seq vs.toArray} (.lst (ns.map V.int))) else none) (λb=> ?_) (.inl (.inr ⟨{cls:=.type "list",data:=.seq vs.toArray},J5 rfl⟩)) (λb u z=> ?_) (λb z=> ?_) λ_=>hk
  ·by_cases hb:b=a
   ·exact .inr ⟨_,_,J5 hb⟩
   ·exact .inl (J6 hb)
  ·by_cases hb:b=a
   ·have z':=(J5 hb).symm.trans z
    cases z'
    subst hb
    exact⟨ha,by rw[K4];exact hl,vs,_,rv,ha⟩
   ·have z':=(J6 hb).symm.trans z
    cases z'
  ·by_cases hb:b=a
   ·exact hb
   ·exact absurd (J6 hb) z
theorem NM {l:OpenLaw}{n k:Nat}{q:Program}{loose:List Str}{XP:(Str->Option Value)->Heap->Prop}{YP:World->Heap->Prop}{d:DefRec}{K:Params->Frag}{CX:World->G5}{sp:World->Sp}{x:Str}
  (hn:l.most=some n) (hn2:n<=sizeLine) (hdf:d.params.defaults=[]) (hr:hX k callerA)
  (hY:∀(w:World) (h:Heap),YP w h->(K w.params).In h)
  (F:∀(w:World) (mg:Str->Option Value) (fa:Addr) (h:Heap),(K w.params).In h->h.Ns mainGlobals mg->mg d.name=some (.ref fa)->
   ∃fd:FuncData,(∀(s:Shared) (u:Value),BindsTo s fd ⟨[u],[]⟩ [(x,u)])/\
    ∀base:Heap,(K w.params).In base->base.Ns mainGlobals mg->cu l.prog w (K w.params) mg base (CX w) k fa fd [x] (sp w))
  (hsp:∀(w:World) (H:Hp) (a:Addr) (ns:List Int),ns.length<=n->Only H->iV (K w.params) H a (ns.map V.int)->sp w [.ref a] H (λv _=>v= .bl true) λ_ _ _=>False)
  (UT:∀(w:World) (H:Hp) (s:Shared) (e:Value) (s':Shared),CX w [] H s (λ_ _ _=>False) e s'->False) :
  PySem.W.WalkO q loose XP YP l.row.toRowW d [] (λf vs=>PySem.call f vs):=by
 refine V3.Cf hn hdf λw s₀ s₁ mg mb fa o pm cd doc a vs ns G Y ho hd hcd hmg hobj hints hlen hg=> ?_
 have KX:=hY w _ Y
 obtain⟨fd,hb,hF⟩:=F w mg fa _ KX G.T.g hmg
 exact KR KX G.T.g G.T.b G.T.builtins G.T.nolimit hg hobj hints (Kq hlen hn2) hr hF hb (λH hO hS=>hsp w H a ns hlen hO hS) λH e s'=>UT w H s₁ e s'
end L2
/- THE LAST THEOREM (shape;LID,My.*are V5):
  My.XG: a structure of the addresses that your layer names (classes,functions);My.Txt K t: a structure (Prop) of the equations over K;
  My.U_:{K} {implicit addresses ..} (e1:nsIn K mainGlobals "law" =some (some (.ref f))) (e2:K.lookup f=some ⟨oc,od,.func (fnOf "law" "law" params body scope dV kV doc pm an cdv ct),sl⟩) (e3:codeIn K cdv "law" =true) ..:∃t,My.Txt K t
(the tactic k_is has no namespace: write k_is) -/
namespace L2
open PySem PySem.Spec PyProof.Rows
def aO (s:Stmt):Arguments:=match s with
 | .FunctionDef _ a _ _ _ _ _ _ _ _=>a
 | _=>{posonlyargs:=[],args:=[],vararg:=none,kwonlyargs:=[],kw_defaults:=[],kwarg:=none,defaults:=[]}
def aH (s:Stmt):List Stmt:=match s with
 | .FunctionDef _ _ b _ _ _ _ _ _ _=>b
 | _=> []
def ag (s:Stmt):Scope:=match s with
 | .FunctionDef _ _ _ _ _ _ sc _ _ _=>sc
 | _=>{kind:=.function,names:=[],isGenerator:=false,isCoroutine:=false}
abbrev kx:G5:=λ_ _ _ _ _ _=>False
abbrev E0:XK:=λ_ _ _=>False
theorem bf {X:Cx}:Passes kx X E0:=λ_ _ _ _ _ _ _ h=>h.elim
structure ll (K:Frag)(x qual:Str)(st:Stmt)(f:Addr)(fd:FuncData):Prop where
 ex:∃(oc:Value) (od:Option Addr) (kV doc pm:Value) (an:Option Addr) (cdv ct:Value) (osl:Array (Option Value)),
  fd=fnOf x qual (aO st) (aH st) (ag st) .none kV doc pm an cdv ct/\K.lookup f=some ⟨oc,od,.func fd,osl⟩/\codeIn K cdv qual=true
 kp:keepIn K (.ref f)=true
section
variable {P:Program}{w:World}{K:Frag}{mg:Str->Option Value}{base:Heap}
theorem ll.ok {x qual:Str}{st:Stmt}{f:Addr}{fd:FuncData}{N ps:List Str}{k:Nat}{sp:Sp}(F:ll K x qual st f fd)(S:aL N ps (ag st))(len:∀vs H Q E,sp vs H Q E->vs.length=ps.length)
  (hbody:∀(cdv:Value) (A:Around) (outer:List Env) (s:Shared) (H:Hp) (vs:List V) (Q:VK) (E:XK),hX k (A.deeper (envOfC qual (ag st) s.heap.objs.size f cdv))->sp vs H Q E->
   ∃t,xn (zm kx P w K mg base N qual (ag st) f cdv A outer s H E).Kr (aH st) t/\t {nx:=λ_ H'=>Q .non H',rt:=Q} (start N vs) H):cu P w K mg base kx (k+1) f fd ps sp:=by
 obtain⟨oc,od,kV,doc,pm,an,cdv,ct,osl,rfl,lk,hcd⟩:=F.ex
 refine SN lk hcd S len λA outer s H vs Q E hr hsp=> ?_
 obtain⟨t,h,q⟩:=hbody cdv A outer s H vs Q E hr hsp
 exact⟨t,h.Kr,q⟩
theorem ll.binds {x qual:Str}{st:Stmt}{f:Addr}{fd:FuncData}{ps:List Str}(F:ll K x qual st f fd)
  (h:∀(kV doc pm:Value) (an:Option Addr) (cdv ct:Value) (us:List Value),us.length=ps.length->bindArgs (fnOf x qual (aO st) (aH st) (ag st) .none kV doc pm an cdv ct) ⟨us,[]⟩=pure (ps.zip us)):Binds K fd ps []:=by
 obtain⟨oc,od,kV,doc,pm,an,cdv,ct,osl,rfl,lk,hcd⟩:=F.ex
 exact .all (h kV doc pm an cdv ct)
theorem bu {x qual:Str}{st:Stmt}{f:Addr}{oc:Value}{od an:Option Addr}{osl:Array (Option Value)}{kV doc pm cdv ct:Value}(l:K.lookup f=some ⟨oc,od,.func (fnOf x qual (aO st) (aH st) (ag st) .none kV doc pm an cdv ct),osl⟩)
  (c:codeIn K cdv qual=true) (k:keepIn K (.ref f)=true):ll K x qual st f (fnOf x qual (aO st) (aH st) (ag st) .none kV doc pm an cdv ct):=⟨⟨oc,od,kV,doc,pm,an,cdv,ct,osl,rfl,l,c⟩,k⟩
end
section
variable {X:Cx}
theorem pv (i:Nat){x:Str}{pos:Pos}(hN:X.N[i]? =some x:=by rfl)(hv:TN X.env.scope x:=by first | exact Or.inl rfl | exact Or.inr (Or.inl rfl) | exact Or.inr (Or.inr rfl))(hd:(x==("__debug__":Str))=false:=by decide)
  (hcd:(x==("__classdict__":Str))=false:=by decide):PE X (.Name x pos) (pd i):=Ko hN hv hd hcd
end
def Same (H H':Hp):Prop:=∀b o,H b=some o->H' b=some o
theorem Same.refl (H:Hp):Same H H:=λ_ _ h=>h
theorem Same.trans {H H1 H2:Hp}(a:Same H H1)(b:Same H1 H2):Same H H2:=λc o h=>b c o (a c o h)
theorem Same.free {H H':Hp}(e:Same H H'){l:Addr}(h:H' l=Option.none):H l=Option.none:=by
 cases q:H l with
 | none=>rfl
 | some o=>
  rw[e l o q] at h
  cases h
theorem Same.seq {K:Frag}{H H':Hp}{a:Addr}{xs:List V}(e:Same H H')(h:iV K H a xs):iV K H' a xs:=by
 rcases h with(h | ⟨o,h⟩) | h
 ·exact .inl (.inl (e _ _ h))
 ·exact .inl (.inr ⟨o,e _ _ h⟩)
 ·exact .inr h
theorem jZ (env:Env):∀(names:List (Str×NameKind)) (x:Str),
  (names.map λ(n,k)=>if (k==NameKind.free && env.scope.kind== .function && env.kindOf n==some .cell) then (n,NameKind.cell) else (n,k)).lookup x=
   (names.lookup x).map λk=>if (k==NameKind.free && env.scope.kind== .function && env.kindOf x==some .cell) then NameKind.cell else k
 | [],_=>rfl
 | (n,k) :: r,x=>by
  have ih:=jZ env r x
  show List.lookup x ((if (k==NameKind.free && env.scope.kind== .function && env.kindOf n==some .cell)=true then (n,NameKind.cell) else (n,k)) :: _)=_
  cases hx:x==n with
  | true=>
   have e:x=n:=eq_of_beq hx
   subst e
   by_cases hc:(k==NameKind.free && env.scope.kind== .function && env.kindOf x==some .cell)=true
   ·rw[J5 hc];simp only[Y6,beq_self_eq_true,U0,J5 hc]
   ·rw[J6 hc];simp only[Y6,beq_self_eq_true,U0,J6 hc]
  | false=>
   by_cases hc:(k==NameKind.free && env.scope.kind== .function && env.kindOf n==some .cell)=true
   ·rw[J5 hc];simp only[Y6,hx];exact ih
   ·rw[J6 hc];simp only[Y6,hx];exact ih
theorem zt {scope:Scope}{env:Env}{x:Str}(h:scope.names.lookup x=some .free):(relabel scope env).names.lookup x=some .cell∨(relabel scope env).names.lookup x=some .free:=by
 show(List.lookup x (scope.names.map _)=_)∨(List.lookup x (scope.names.map _)=_)
 rw[jZ,h]
 simp only[U0]
 split
 ·exact .inl rfl
 ·exact .inr rfl
theorem Fo {scope:Scope}{env:Env}{x:Str}(h:(relabel scope env).names.lookup x=some .cell∨(relabel scope env).names.lookup x=some .free):scope.names.lookup x=some .cell∨scope.names.lookup x=some .free:=by
 have e:(relabel scope env).names.lookup x=(scope.names.lookup x).map _:=jZ env scope.names x
 rw[e] at h
 cases q:scope.names.lookup x with
 | none=>rw[q] at h;rcases h with h | h <;> cases h
 | some k=>
  rw[q] at h
  simp only[U0] at h
  by_cases hc:(k==NameKind.free && env.scope.kind== .function && env.kindOf x==some .cell)=true
  ·have:k= .free:=by
    cases k <;> first | rfl | (exfalso;revert hc;simp;done) | (exfalso;simp at hc)
   exact .inr (by rw[this])
  ·rw[J6 hc] at h
   exact h
theorem uH {scope:Scope}{env:Env}(h:∀y∈scope.names,y.2= .free->∃c,env.cells.lookup y.1=some c) :
  ∃cl:List (Str×Addr),closureFor scope env=pure cl/\(∀x c,cl.lookup x=some c->env.cells.lookup x=some c)/\∀y∈scope.names,y.2= .free->∃c,cl.lookup y.1=some c:=by
 have aux:∀(names:List (Str×NameKind)) (cs:List (Str×Addr)),(∀y∈names,y.2= .free->∃c,env.cells.lookup y.1=some c)->(∀x c,cs.lookup x=some c->env.cells.lookup x=some c)->
   ∃cl:List (Str×Addr),(forIn names cs (λx r=>(match x with | (name,kind)=>if (kind==NameKind.free)=true then do let a←cellOf env name;pure (ForInStep.yield ((name,a) :: r)) else pure (ForInStep.yield r):Sem (ForInStep (List (Str×Addr))))):Sem (List (Str×Addr)))=pure cl/\
    (∀x c,cl.lookup x=some c->env.cells.lookup x=some c)/\(∀x,(∃c,cs.lookup x=some c)->∃c,cl.lookup x=some c)/\∀y∈names,y.2= .free->∃c,cl.lookup y.1=some c:=by
  intro names
  induction names with
  | nil=>intro cs _ hs;exact⟨cs,rfl,hs,λ_ z=>z,λy hy=>by cases hy⟩
  | cons p r ih=>
   intro cs hn hs
   obtain⟨n,k⟩:=p
   by_cases hk:(k==NameKind.free)=true
   ·have ek:k= .free:=by cases k <;> first | rfl | (exfalso;revert hk;decide)
    obtain⟨c,hc⟩:=hn (n,k) K8 ek
    obtain⟨cl,e,h1,h2,h3⟩:=ih ((n,c) :: cs) (λy hy=>hn y (K9 _ hy)) (λx c' hx=>by
     rw[Y6] at hx
     cases hxn:x==n with
     | true=>
      rw[hxn] at hx
      cases hx
      rw[eq_of_beq hxn]
      exact hc
     | false=>rw[hxn] at hx;exact hs x c' hx)
    have self:∃c',((n,c) :: cs).lookup n=some c':=⟨c,by simp[Y6]⟩
    refine⟨cl,?_,h1,λx ⟨c',hx⟩=>h2 x ?_,λy hy ef=> ?_⟩
    ·rw[YU]
     simp only[hk,if_true]
     have hco:cellOf env n=pure c:=by unfold cellOf;rw[hc]
     rw[hco]
     simp only[pure_bind]
     exact e
    ·rw[Y6]
     cases hxn:x==n with
     | true=>exact⟨c,rfl⟩
     | false=>exact⟨c',hx⟩
    ·rcases K2.mp hy with rfl | hy
     ·exact h2 _ self
     ·exact h3 y hy ef
   ·obtain⟨cl,e,h1,h2,h3⟩:=ih cs (λy hy=>hn y (K9 _ hy)) hs
    refine⟨cl,?_,h1,h2,λy hy ef=> ?_⟩
    ·rw[YU]
     simp only[hk,if_false,pure_bind]
     exact e
    ·rcases K2.mp hy with rfl | hy
     ·have ef':k= .free:=ef
      rw[ef'] at hk
      exact absurd rfl hk
     ·exact h3 y hy ef
 obtain⟨cl,e,h1,_,h3⟩:=aux scope.names [] h (λx c hx=>by cases hx)
 refine⟨cl,?_,h1,h3⟩
 unfold closureFor
 first
  | exact(congrArg (· >>=λr=>pure r) e).trans rfl
  | (simp only[bind_pure];exact e)
  | exact e
def cZ (X:Cx)(scope:Scope)(cl:List (Str×Addr))(N:List Str)(fp:List Addr)(s:Shared)(H:Hp)(C:Addr):Cx :=
 {X with N:=N,s₀:=s,H₀:=H,env:=compEnvC scope cl C X.env,outer:=X.stack,ex:=fp,fn:=λ_=>false,pn:=[],xe:=λ_ _=>False}
def pe (σ:St)(ix:List Nat):St:=ix.map λk=>(σ[k]?).join
structure ju (X:Cx)(scope:Scope)(v:Str)(F:List Str)(ix:List Nat):Prop where
 kind:scope.kind= .function
 own:scope.names.lookup v=some .local
 names:∀y∈scope.names,y.2= .local->scope.names.lookup y.1=some .local
 KS:∀y∈scope.names,y.2≠ .cell
 free:∀y∈scope.names,y.2= .free->X.env.scope.names.lookup y.1=some .cell∨X.env.scope.names.lookup y.1=some .free
 cap:∀x∈F,scope.names.lookup x=some .free
 nd:(v :: F).Nodup
 eqs:ix.map (λk=>X.N[k]?)=F.map some
theorem ju.len {X:Cx}{scope:Scope}{v:Str}{F:List Str}{ix:List Nat}(O:ju X scope v F ix):ix.length=F.length:=by
 have:=congrArg List.length O.eqs
 simpa using this
theorem ju.imp {X:Cx}{scope:Scope}{v:Str}{F:List Str}{ix:List Nat}(O:ju X scope v F ix):∀(i:Nat) (x:Str),F[i]? =some x->∃k,ix[i]? =some k/\X.N[k]? =some x:=λi x e=>by
 have h:=congrArg (·[i]?) O.eqs
 simp only[Kj,e,U0] at h
 cases q:ix[i]? with
 | none=>rw[q] at h;cases h
 | some k=>rw[q] at h;exact⟨k,rfl,Option.some.inj h⟩
def NN (X:Cx)(ifs:List Expr)(t:TT):Prop :=
 ∀(pins:List (Addr×Obj)) (s:Shared) (σ:St) (H:Hp) (Q:Bool->Hp->Prop),Inv X pins σ H s->t σ H Q->
  wpAny (model X.prog X.w) X.A (forIn ifs true λc r=>if r=true then do let ok←isTrue c X.env (eval c X.env);pure (ForInStep.yield ok) else pure (ForInStep.yield r)) (TP X pins σ Q) X.xe s
def Va:TT:=λ_ H Q=>Q true H
theorem NO {X:Cx}:NN X [] Va:=λ_ _ _ H _ I h=>wpAny_tests_nil ⟨H,I,h⟩
theorem NP {X:Cx}{c:Expr}{t:TT}(h:PT X c t):NN X [c] t:=λpins s σ H Q I hw=>wpAny_tests_one (h pins s σ H Q I hw)
def Ps (J:It)(σ:St)(ix:List Nat)(tt:TT)(te:TE)(H1:Hp)(Q:VK)(D:Addr):Prop :=
 ∃W:Nat->Nat->List V->Hp->Prop,(∃m,W 0 m [] (upd H1 D (.lst [])))/\∀i m ys H,W i m ys H->H D=some (.lst ys)/\
  ((
   J.stop i H/\Q (.ref D) H)∨(J.go i H/\∀x H',J.Sw i H x H'->tt (some x :: pe σ ix) H' λb H3=>if b=true then te (some x :: pe σ ix) H3 λv H4=>H4 D=some (.lst ys)/\ys.length < sizeLine/\∃m',m' < m/\W (i+1) m' (ys++[v]) (upd H4 D (.lst (ys++[v])))
   else∃m',m' < m/\W (i+1) m' ys H3))
def K_ (wi:TI)(ix:List Nat)(tt:TT)(te:TE):TE:=λσ H Q=>wi σ H λJ H1=>∀D,H1 D=none->Ps J σ ix tt te H1 Q D
section
variable {X:Cx}{scope:Scope}{v:Str}{F:List Str}{ix:List Nat}{pins:List (Addr×Obj)}{σ:St}{H:Hp}{s:Shared}
theorem Inv.yv (I:Inv X pins σ H s)(O:ju X scope v F ix):∀y∈scope.names,y.2= .free->∃c,X.env.cells.lookup y.1=some c:=λy hy hf=>I.ok.has y.1 (O.free y hy hf)
theorem Inv.QG {cl:List (Str×Addr)}{fp:List Addr}{C:Addr}(I:Inv X pins σ H s)(O:ju X scope v F ix)(hsub:∀x c,cl.lookup x=some c->X.env.cells.lookup x=some c)(hcl:∀y∈scope.names,y.2= .free->∃c,cl.lookup y.1=some c)
  (hfp:∀b∈fp,uE X pins H b) (hfz:∀b∈fp,b < s.heap.objs.size) (hC:s.heap.objs.size<=C):(cZ X scope cl (v :: F) fp s H C).Ok where
 mod:=I.ok.mod
 kind:=O.kind
 glob:=I.ok.glob
 blt:=I.ok.blt
 above:=hC
 inj:=λx y c h1 h2=>I.ok.inj x y c (hsub x c h1) (hsub y c h2)
 has:=λx hx=>by
  have hx':scope.names.lookup x=some .cell∨scope.names.lookup x=some .free:=Fo (env:=X.env) hx
  rcases hx' with e | e
  ·exact absurd rfl (O.KS _ (PySem.mem_of_lookup e))
  ·exact hcl _ (PySem.mem_of_lookup e) rfl
 cab:=λx c hf _=>by cases hf
 hd:=I.ok.hd
 frames:=I.ok.frames
 stk:=.inl rfl
 R8:=λb hb=>⟨X1 (X4 (hfz b hb) hC),λx c e=>(hfp b hb).2.2.2.2.1 x c (hsub x c e)⟩
 bs:=I.bs
 Ic:=Kq I.ok.Ic I.sz
 Fb:=λb o e hb=>by
  rcases(hfp b hb).2.2.2.1 with z | z
  ·exact I.ok.Fb b o e z
  ·exact absurd (X4 (KU e) (Kq I.ok.Ic z)) (XJ _)
 Fc:=λb hb hs=>by
  rcases K2.mp (I.Fd b hs) with e | e
  ·exact(hfp b hb).2.1 e
  ·exact(hfp b hb).2.2.1 e
 pc:=I.stack
 Nm:=I.GZ
theorem Inv.compStart {cl:List (Str×Addr)}{fp:List Addr}{C:Addr}{h1:Heap}{tk n:Nat}(I:Inv X pins σ H s)(O:ju X scope v F ix)(hsub:∀x c,cl.lookup x=some c->X.env.cells.lookup x=some c)(hcl:∀y∈scope.names,y.2= .free->∃c,cl.lookup y.1=some c)
  (hfp:∀b∈fp,uE X pins H b) (hfz:∀b∈fp,b < s.heap.objs.size) (hC:C=s.heap.objs.size+1) (hk:∀b o,s.heap.get? b=some o->h1.get? b=some o) (hns:h1.Ns C λ_=>none)
  (hD:h1.get? s.heap.objs.size=some {cls:=.type "list",data:=.seq ([]:List Value).toArray n}) :
  Inv (cZ X scope cl (v :: F) fp s H C) [] (none :: pe σ ix) (upd H s.heap.objs.size (.lst [])) {s with heap:=h1,toks:=tk}:=by
 have hn:H s.heap.objs.size=none:=I.hok.fresh (Ku _)
 have hlt:s.heap.objs.size < C:=by rw[hC];exact U2 _
 refine⟨I.QG O hsub hcl hfp hfz (YK hlt),rfl,I.bare,Un.laid hk (Ku _) hn,⟨_,hns,λi x u e1 e2 e3=> ?_⟩,λx c e=> ?_,?_,λx c e=> ?_,λp hp=>absurd (show p∈([]:List (Addr×Obj)) from hp) (by simp),
  I.hok.laid hk (Ku _) ⟨Xu _,[],n,.nil,hD⟩,?_⟩
 ·cases i with
  | zero=>have e2':(some none:Option (Option V))=some (some u):=e2;cases e2'
  | succ i=>
   have e1':F[i]? =some x:=e1
   have e2':(pe σ ix)[i]? =some (some u):=e2
   obtain⟨k,hk1,hk2⟩:=O.imp i x e1'
   unfold pe at e2'
   rw[Kj,hk1] at e2'
   have e4:(σ[k]?).join=some u:=by simpa using e2'
   have e5:σ[k]? =some (some u):=by
    cases q:σ[k]? with
    | none=>rw[q] at e4;cases e4
    | some o=>rw[q] at e4;have:o=some u:=e4;rw[this]
   have hfr:scope.names.lookup x=some .free:=O.cap x (Y0 e1')
   have V6:=O.free _ (PySem.mem_of_lookup hfr) rfl
   obtain⟨m,hm,hl⟩:=I.loc
   obtain⟨w,Il,lk⟩:=hl k x u hk2 e5 (by rcases V6 with z | z;exact .inr (.inl z);exact .inr (.inr z))
   refine⟨w,Il,.inr ⟨?_,?_⟩⟩
   ·exact zt hfr
   ·obtain⟨c,hc⟩:=hcl _ (PySem.mem_of_lookup hfr) rfl
    refine⟨c,hc,?_⟩
    rcases lk with⟨z,_⟩ | ⟨_,c',hc',cell⟩
    ·have z':X.env.scope.names.lookup x=some .local:=z
     rcases V6 with y | y <;> (rw[z'] at y;cases y)
    ·have:c'=c:=by
      have:=hsub _ _ hc
      rw[hc'] at this
      exact Option.some.inj this
     subst this
     exact cell.keeps hk
 ·obtain⟨w,cell⟩:=I.cell x c (hsub x c e)
  exact⟨w,cell.keeps hk⟩
 ·show upd H s.heap.objs.size (.lst []) C=none
  rw[a9 (UU hlt)]
  exact I.hok.fresh (YK hlt)
 ·obtain⟨w,cell⟩:=I.cell x c (hsub x c e)
  rw[a9 (X1 cell.lt)]
  exact I.mH x c (hsub x c e)
 ·show(none :: pe σ ix).length=(v :: F).length
  unfold pe
  rw[Kv,Kv,K4,O.len]
end
section
variable {X:Cx}{scope:Scope}{v:Str}{F:List Str}{ix:List Nat}{pins:List (Addr×Obj)}{σ:St}{H:Hp}{s:Shared}
 {elt iter:Expr} {ifs:List Expr} {px pos:Pos} {tt:TT} {te:TE}
theorem uI {J:It}{fp:List Addr}{it:Addr}{tn:Nat->Heap->Prop}{cl:List (Str×Addr)}{Q:VK}{RR:Value->Addr->Result->Shared->Prop}
  (I:Inv X pins σ H s) (O:ju X scope v F ix) (hc:X.calm=true) (hsub:∀x c,cl.lookup x=some c->X.env.cells.lookup x=some c) (hcl:∀y∈scope.names,y.2= .free->∃c,cl.lookup y.1=some c)
  (T:Turn X.prog X.w X.K (.Name v px) J fp it tn) (hst:tn 0 s.heap) (hfp:∀b∈fp,uE X pins H b)
  (zu:∀cl fp s H C,NN (cZ X scope cl (v :: F) fp s H C) ifs tt) (helt:∀cl fp s H C,PE (cZ X scope cl (v :: F) fp s H C) elt te)
  (hr:∀D,H D=none->Ps J σ ix tt te H Q D)
  (hRR:∀(D C:Addr) (s':Shared) (H':Hp) (m:Str->Option Value),s'.heap.Ns C m->Inv X pins σ H' s'->H' C=none->s.heap.objs.size<=C->Q (.ref D) H'->RR (.ref D) C (.ok .next) s') :
  wpAny (model X.prog X.w) X.A (newList []) (λacc s₃=>wpAny (model X.prog X.w) X.A (newFunctionEnv scope X.env.globals cl [] X.env.qual none .none (some X.env)) (λcenv s₄=>
   codeAny (model X.prog X.w) X.A (.compStart (.ListComp elt [⟨.Name v px,iter,ifs,0⟩] scope pos) 0 (.ref it) acc {cenv with scope:=relabel scope X.env}) (RR acc cenv.locals) s₄) X.xe s₃) X.xe s:=by
 have hfz:∀b∈fp,b < s.heap.objs.size:=λb hb=>let ⟨o,e,_⟩:=T.obj 0 s.heap hst b hb;KU e
 refine J0 (wpAny_newFunctionEnv O.KS (by intro y hy;simp at hy) (λh₁ hns₁ hsb₁=> ?_) O.kind)
 dsimp only at hns₁ hsb₁⊢
 generalize hH2:s.heap.push {cls:=.type "list",dict:=none,data:=.seq ([]:List Value).toArray}=H2 at hns₁ hsb₁⊢
 have hC:H2.objs.size=s.heap.objs.size+1:=by rw[←hH2,Xw]
 have hDC:s.heap.objs.size≠H2.objs.size:=by rw[hC];exact X1 (U2 _)
 have old:∀b o,s.heap.get? b=some o->h₁.get? b=some o:=λb o e=>hsb₁.extBut b o (by rw[hC];exact X1 (Uy (KU e))) (K6 _ (hH2 ▸ K6 _ e))
 have hD:h₁.get? s.heap.objs.size=some {cls:=.type "list",data:=.seq ([]:List Value).toArray}:=hsb₁.extBut _ _ hDC (K6 _ (hH2 ▸ Kz _ rfl))
 have hst₁:tn 0 h₁:=T.keep 0 _ _ hst λb _ o e=>old b o e
 have loop:∀s₃:Shared,s₃={s with heap:=h₁,toks:=s.toks+([]:List (Str×Value)).length}->
   codeAny (model X.prog X.w) X.A (.compLoop (.ListComp elt [⟨.Name v px,iter,ifs,0⟩] scope pos) 0 (.ref it) (.ref s.heap.objs.size) (compEnvC scope cl H2.objs.size X.env))
    (RR (.ref s.heap.objs.size) H2.objs.size) s₃:=by
  rintro s₃ rfl
  have I1:=I.compStart (C:=H2.objs.size) (tk:=s.toks+([]:List (Str×Value)).length) O hsub hcl hfp hfz hC old (show h₁.Ns _ (λ_=>none) from hns₁) hD
  obtain⟨W,⟨m0,w0⟩,turn⟩:=hr s.heap.objs.size (I.hok.fresh (Ku _))
  have stat:∀{H':Hp},(∀b∈fp,H' b=none)->∀b∈fp,uE (cZ X scope cl (v :: F) fp s H H2.objs.size) [] H' b:=λhn b hb=>
   ⟨hn b hb,((I1.ok.R8 b hb).1),I1.ok.Fc b hb,.inl hb,(I1.ok.R8 b hb).2,λp hp=>absurd (show p∈([]:List (Addr×Obj)) from hp) (by simp)⟩
  have WM:∀b∈fp,(upd H s.heap.objs.size (.lst [])) b=none:=λb hb=>by
   rw[a9 (X1 (hfz b hb))]
   exact(hfp b hb).1
  have WN:(cZ X scope cl (v :: F) fp s H H2.objs.size).N.Nodup:=O.nd
  have Vb:Loc (cZ X scope cl (v :: F) fp s H H2.objs.size).env.scope v:=.inl (lookup_relabel_local O.own)
  refine codeAny_loop rfl (λn s'=>∃i ys H',Inv (cZ X scope cl (v :: F) fp s H H2.objs.size) [] (none :: pe σ ix) H' s'/\tn i s'.heap/\(∀b∈fp,H' b=none)/\W i n ys H') (λn s3 hI=> ?_) m0 ⟨0,[],_,I1,hst₁,WM,w0⟩
  obtain⟨i,ys,H3,I3,st3,Sz,w3⟩:=hI
  show wpAny _ X.A ((compTurn (.ListComp elt [⟨.Name v px,iter,ifs,0⟩] scope pos) 0 (.ref it) (.ref s.heap.objs.size) (compEnvC scope cl H2.objs.size X.env)).onRaise (λx=>do noteFrame x (compEnvC scope cl H2.objs.size X.env);theTreesLotGoes x)) _ _ s3
  refine wpAny_noted ?_
  rw[compTurn_list]
  refine J8 (wpAny_standAt (J8 ?_))
  obtain⟨T1,⟨stop,qn⟩ | ⟨go,step⟩⟩:=turn i n ys H3 w3
  ·refine eQ (T.done (cZ X scope cl (v :: F) fp s H H2.objs.size) rfl rfl rfl hc i [] s3 _ H3 _ I3 (stat Sz) st3 stop) λr s4 ⟨Vc,I4⟩=> ?_
   subst Vc
   obtain⟨m,hm,_⟩:=id I4.loc
   refine J7 ?_
   refine hRR _ _ s4 H3 m hm ?_ I4.free (by rw[hC];exact Uu _) qn
   exact I.call' (ch:=fp) I4.os I4.base I4.hok I4.bare λb hb=>⟨(hfp b hb).2.2.2.1,(hfp b hb).2.1,(hfp b hb).2.2.2.2.1,(hfp b hb).2.2.2.2.2⟩
  ·refine eQ (T.item (cZ X scope cl (v :: F) fp s H H2.objs.size) rfl rfl rfl hc i [] s3 _ H3 _ I3 (stat Sz) st3 go) λr s4 ⟨u,Vc,h4⟩=> ?_
   subst Vc
   refine J8 (eQ h4 λ_ s5 ⟨x,H5,I5,r5,y5,Qh,UE⟩=> ?_)
   have UG:=I5.pinned (stat UE) (T.obj _ _ Qh)
   have hstep:=step x H5 y5
   have again:∀{H7:Hp} {s7:Shared} {m':Nat} {zs:List V},Inv (cZ X scope cl (v :: F) fp s H H2.objs.size) ([]++uF fp s5.heap) (some x :: pe σ ix) H7 s7->m' < n->W (i+1) m' zs H7->
     ∃m,m < n/\∃i ys H',Inv (cZ X scope cl (v :: F) fp s H H2.objs.size) [] (none :: pe σ ix) H' s7/\tn i s7.heap/\(∀b∈fp,H' b=none)/\W i m ys H':=λ{H7 s7 m' zs} I7 hm w7=>by
    refine⟨m',hm,i+1,zs,H7,?_,T.keep _ _ _ Qh λb hb o e=>(I7.pin (b,o) (K1 _ (K1 _ (lQ hb e)))).1,λb hb=> ?_,w7⟩
    ·refine I7.p0.weak rfl λj w e=> ?_
     cases j with
     | zero=>cases e
     | succ j=>exact e
    ·obtain⟨o,e,d⟩:=T.obj _ _ Qh b hb
     exact(I7.pin (b,o) (K1 _ (K1 _ (lQ hb e)))).2.1
   refine J8 (wpAny_mono (cv (X:=cZ X scope cl (v :: F) fp s H H2.objs.size) (i:=0) (x:=v) (pos:=px) WN rfl Vb (.inr (lookup_relabel_local O.own)) _ s5 _ H5 x u (λσ2 WO=>σ2=some x :: pe σ ix/\WO=H5) UG r5 ⟨rfl,rfl⟩) (λ_ s6 ⟨σ6,H6,I6,e6,WQ⟩=> ?_) λ_ _ z=>False.elim z)
   subst e6 WQ
   refine J8 (wpAny_mono (zu cl fp s H H2.objs.size _ s6 _ H6 _ I6 hstep) (λok s7 ⟨H7,I7,q7⟩=> ?_) λ_ _ z=>False.elim z)
   cases ok with
   | false=>
    rw[J6 K3] at q7
    obtain⟨m',hm,w7⟩:=q7
    exact J7 ⟨rfl,again I7 hm w7⟩
   | true=>
    rw[J5 rfl] at q7
    refine J8 (J8 (wpAny_mono (helt cl fp s H H2.objs.size _ s7 _ H7 _ I7 q7) (λy s8 ⟨vv,H8,I8,r8,WR,hz8,m',hm,w8⟩=> ?_) λ_ _ z=>False.elim z))
    refine J8 (wpAny_mono (qZ (X:=cZ X scope cl (v :: F) fp s H H2.objs.size) _ s8 _ H8 (.ref s.heap.objs.size) [vv] _ [y] (λ_ H9=>H9=upd H8 s.heap.objs.size (.lst (ys++[vv]))) I8 rfl (.cons r8 .nil) ⟨_,ys,vv,rfl,rfl,WR,hz8,rfl⟩) (λ_ s9 ⟨_,H9,I9,_,e9⟩=> ?_) λ_ _ z=>False.elim z)
    subst e9
    exact J7 (J7 ⟨rfl,again I9 hm w8⟩)
 exact codeAny_compStart_list (loop _ rfl) (T.self _ 0 _ _ _ hst₁ (loop _ rfl))
theorem NQ {wi:TI}(hc:X.calm=true)(O:ju X scope v F ix)(hi:PI X (.Name v px) iter wi)
  (zu:∀cl fp s H C,NN (cZ X scope cl (v :: F) fp s H C) ifs tt) (helt:∀cl fp s H C,PE (cZ X scope cl (v :: F) fp s H C) elt te)
  (hs:∀x,foldedSetIterable iter X.env x=pure x:=by intro _;rfl):PE X (.ListComp elt [⟨.Name v px,iter,ifs,0⟩] scope pos) (K_ wi ix tt te):=by
 intro pins s σ H Q I h
 obtain⟨cl,hclos,hsub,hcl⟩:=uH (I.yv O)
 rw[eval_ListComp]
 refine wpAny_comprehension_free (use:=none) rfl hs hclos O.kind O.names (eQ (hi pins s σ H _ I h) λxv s1 h1=>eQ h1 λitv s2 h2=> ?_)
 obtain⟨it,fp,tn,J,H2,e,I2,T,st2,f2,hr⟩:=h2
 subst e
 refine uI (RR:=λacc C=>compPost (model X.prog X.w) X.A X.xe none (EP X pins σ Q) acc C) I2 O hc hsub hcl T st2 f2 zu helt hr ?_
 intro D C s' H' m hm I' hn hC q
 have fp':=I2.sF (H':=H') hC hn
 exact⟨m,hm,λh' hs'=>⟨.ref D,H',I'.turned (t':=s'.toks) (λb o hb e=>(hs'.2 b hb).trans e) hn fp'.2.1 fp'.2.2.2.1 fp'.2.2.2.2.1 fp'.2.2.2.2.2,rfl,q⟩⟩
theorem Fp {wi:TI}{i:Nat}{x:Str}{py spos:Pos}(hN:X.N.Nodup)(hxi:X.N[i]? =some x)(hx:Loc X.env.scope x)(hc:X.calm=true)(O:ju X scope v F ix)(hi:PI X (.Name v px) iter wi)
  (zu:∀cl fp s H C,NN (cZ X scope cl (v :: F) fp s H C) ifs tt) (helt:∀cl fp s H C,PE (cZ X scope cl (v :: F) fp s H C) elt te)
  (hsw:swapsWith (.ListComp elt [⟨.Name v px,iter,ifs,0⟩] scope pos) (some (.Name x py)) spos.line X.env=pure true)
  (hs:∀x,foldedSetIterable iter X.env x=pure x:=by intro _;rfl) (hf:X.fn x=true∨X.env.scope.names.lookup x=some .local:=by first | exact .inl rfl | exact .inr rfl | assumption) :
  PS X (.Assign [.Name x py] (.ListComp elt [⟨.Name v px,iter,ifs,0⟩] scope pos) spos) (Qe (K_ wi ix tt te) (Ca i)):=by
 intro pins s σ H D I h
 obtain⟨cl,hclos,hsub,hcl⟩:=uH (I.yv O)
 rw[exec_Assign_Name_used _ _ _ _ hsw]
 refine J8 (wpAny_standAt (J8 ?_))
 show wpAny _ X.A (do let _←comprehension (.ListComp elt [⟨.Name v px,iter,ifs,0⟩] scope pos) scope X.env _ (newList []) false (eval iter X.env) (some (assign (.Name x py) X.env))) _ _ s
 refine J8 (wpAny_mono (wpAny_comprehension_free (use:=some (assign (.Name x py) X.env)) (Q:=λ_ s'=>SP X pins D .next s') rfl hs hclos O.kind O.names
  (eQ (hi pins s σ H _ I h) λxv s1 h1=>eQ h1 λitv s2 h2=> ?_)) (λ_ s' hq=>J7 (J7 hq)) λ_ _ e=>e)
 obtain⟨it,fp,tn,J,H2,e,I2,T,st2,f2,hr⟩:=h2
 subst e
 refine uI (RR:=λacc C=>compPost (model X.prog X.w) X.A X.xe (some (assign (.Name x py) X.env)) (λ_ s'=>SP X pins D .next s') acc C) (Q:=λy H1=>Ca i y σ H1 D.nx) I2 O hc hsub hcl T st2 f2 zu helt hr ?_
 intro L C s' H' m hm I' hn hC q
 have fp':=I2.sF (H':=H') hC hn
 show wpAny _ X.A (assign (.Name x py) X.env (.ref L)) _ _ _
 refine wpAny_assign_Name (yo I' hN hxi hx (v:=.ref L) rfl (λs3 I3 ⟨a,sb,ha⟩=> ?_) hf)
 have WS:C≠a:=by
  rcases ha with e | e
  ·rw[e];exact fp'.2.1
  ·exact Ne.symm (fp'.2.2.2.2.1 _ _ e)
 refine⟨m,hm.sameBut sb WS,λh' hs'=>⟨_,H',I3.turned (t':=s3.toks) (λb o hb e=>(hs'.2 b hb).trans e) hn fp'.2.1 fp'.2.2.2.1 fp'.2.2.2.2.1 fp'.2.2.2.2.2,q⟩⟩
end
end L2
namespace Y
open PySem
/- no list or dict within -/
mutual
def bL:PyData->Bool
 | .list _=>false
 | .dict _=>false
 | .tuple xs=>aq xs
 | _=>true
def aq:List PyData->Bool
 | []=>true
 | d :: ds=>bL d && aq ds
end
theorem ji:∀(xs ys:List PyData),aq (xs++ys)=(aq xs && aq ys)
 | [],ys=>by simp[aq]
 | x :: xs,ys=>by rw[U8,aq,aq,ji xs ys,Bool.and_assoc]
theorem a6:∀{xs:List PyData},aq xs=true↔∀x∈xs,bL x=true
 | []=>by simp[aq]
 | x :: xs=>by rw[aq,KQ,a6 (xs:=xs)];simp
theorem aP {α:Type}(f:α->PyData)(h:∀i,bL (f i)=true)(l:List α):aq (l.map f)=true:=a6.mpr λx hx=>by
 obtain⟨y,_,rfl⟩:=Ky.mp hx;exact h y
theorem Cg {xs:List PyData}(h:aq xs=true):∀k:Nat,aq (List.replicate k xs).flatten=true
 | 0=>rfl
 | k+1=>by rw[U6,UJ,ji,h,Cg h k];rfl
/- data that==reads: no dict,not too deep -/
mutual
def lay:Nat->PyData->Bool
 | _,.none=>true
 | _,.bool _=>true
 | _,.int _=>true
 | _,.str x=>PyData.strOk x
 | n+1,.list xs=>lays n xs
 | n+1,.tuple xs=>lays n xs
 | _,_=>false
def lays:Nat->List PyData->Bool
 | _,[]=>true
 | n,d :: ds=>lay n d && lays n ds
end
theorem jk {n:Nat}:∀{xs:List PyData},lays n xs=true↔∀x∈xs,lay n x=true
 | []=>by simp[lays]
 | x :: xs=>by rw[lays,KQ,jk (xs:=xs)];simp
theorem j0 {α:Type}{n:Nat}(f:α->PyData)(h:∀i,lay n (f i)=true)(l:List α):lays n (l.map f)=true:=jk.mpr λx hx=>by
 obtain⟨y,_,rfl⟩:=Ky.mp hx;exact h y
inductive R (α:Type) where
 | ok (a:α)
 | ex (c:Str)
abbrev M (α:Type):=Option (R α)
def ah {α:Type}(a:α):M α:=some (.ok a)
def ar {α β:Type}(m:M α)(f:α->M β):M β:=match m with
 | none=>none
 | some (.ok a)=>f a
 | some (.ex c)=>some (.ex c)
theorem ay {α β:Type}(a:α)(f:α->M β):ar (ah a) f=f a:=rfl
def mo {α:Type}(o:Option α):M α:=o.map .ok
theorem cw {α:Type}(a:α):mo (some a)=ah a:=rfl
abbrev bD:=List (Option (Bool×PyData))
inductive Kd where
 | fr (l:List Nat)
 | base
 | any
def eR (k:Kd)(d:PyData):Kd:=if bL d then .fr [] else k
abbrev EF:=bD->M (Kd×PyData)
abbrev TF:=bD->M Bool
inductive Out where
 | nx (Γ:bD)
 | bk (Γ:bD)
 | ct (Γ:bD)
 | rt (o:Bool) (d:PyData)
abbrev SF:=bD->M Out
abbrev GF:=Kd->PyData->bD->Option bD
abbrev IF:=bD->M (Kd×List PyData)
abbrev FF:=List PyData->M (Bool×PyData)
def eC (d:PyData):EF:=λ_=>ah (.fr [],d)
def eV (i:Nat):EF:=λΓ=>match Γ[i]? with
 | some (some (o,d))=>ah (eR (if o then .fr [i] else .base) d,d)
 | _=>none
def bz (g:PyData->PyData->Option PyData)(a b:EF):EF:=λΓ=>ar (a Γ) λx=>ar (b Γ) λy=>ar (mo (g x.2 y.2)) λz=>ah (.fr [],z)
def sd (g:PyData->Option PyData)(a:EF):EF:=λΓ=>ar (a Γ) λx=>ar (mo (g x.2)) λz=>ah (.fr [],z)
def dW (g:PyData->PyData->Option PyData)(a b:EF):EF:=λΓ=>ar (a Γ) λx=>ar (b Γ) λy=>ar (mo (g x.2 y.2)) λz=>ah (eR x.1 z,z)
def S0 (c:TF)(a b:EF):EF:=λΓ=>ar (c Γ) λt=>if t=true then a Γ else b Γ
def q8 (g g':PyData->PyData->Option PyData)(a b c:EF):EF:=λΓ=>ar (a Γ) λx=>ar (b Γ) λy=>ar (mo (g x.2 y.2)) λz=>match z with
 | .bool true=>ar (c Γ) λw=>ar (mo (g' y.2 w.2)) λu=>ah (.fr [],u)
 | .bool false=>ah (.fr [],.bool false)
 | _=>none
def La (a b:EF):EF:=λΓ=>ar (a Γ) λx=>match x.2 with
 | .bool true=>b Γ
 | .bool false=>ah (.fr [],.bool false)
 | _=>none
def Lb (a:EF):EF:=λΓ=>ar (a Γ) λx=>match x.2 with
 | .bool t=>ah (.fr [],.bool (!t))
 | _=>none
def tE (a:EF):TF:=λΓ=>ar (a Γ) λx=>match x.2 with
 | .bool t=>ah t
 | _=>none
def uJ (a b:TF):TF:=λΓ=>ar (a Γ) λx=>if x=true then b Γ else ah false
def sH (a b:TF):TF:=λΓ=>ar (a Γ) λx=>if x=true then ah true else b Γ
def iJ (a:TF):TF:=λΓ=>ar (a Γ) λx=>ah (!x)
def eArgs:List EF->bD->M (List (Kd×PyData))
 | [],_=>ah []
 | f :: r,Γ=>ar (f Γ) λx=>ar (eArgs r Γ) λxs=>ah (x :: xs)
def bX:List (Kd×PyData)->Kd
 | []=> .fr []
 | (.fr [],_) :: r=>bX r
 | _ :: _=> .any
def jH (fs:List EF):EF:=λΓ=>ar (eArgs fs Γ) λxs=>ah (eR (bX xs) (.tuple (xs.map Prod.snd)),.tuple (xs.map Prod.snd))
def cY (fs:List EF):EF:=λΓ=>ar (eArgs fs Γ) λxs=>ah (bX xs,.list (xs.map Prod.snd))
def lq (g:List PyData->Option PyData)(fs:List EF):EF:=λΓ=>ar (eArgs fs Γ) λxs=>ar (mo (g (xs.map Prod.snd))) λz=>ah (.fr [],z)
def aG (F:FF)(fs:List EF):EF:=λΓ=>ar (eArgs fs Γ) λxs=>ar (F (xs.map Prod.snd)) λr=>ah (eR (if r.1=true then .fr [] else .any) r.2,r.2)
def Ci (x y:PyData):Option PyData:=if lay 60 x && lay 60 y then some (.bool (PyData.eqv x y)) else none
def Cj (x y:PyData):Option PyData:=if lay 60 x && lay 60 y then some (.bool (!PyData.eqv x y)) else none
def dG (ys:List PyData)(x:PyData):Bool:=ys.any λz=>PyData.eqv z x
def Lc (x:PyData):PyData->Option PyData
 | .list ys=>if lay 60 x && lays 60 ys then some (.bool (dG ys x)) else none
 | .tuple ys=>if lay 60 x && lays 60 ys then some (.bool (dG ys x)) else none
 | _=>none
def h9 (x:PyData):PyData->Option PyData
 | .list ys=>if lay 60 x && lays 60 ys then some (.bool (!dG ys x)) else none
 | .tuple ys=>if lay 60 x && lays 60 ys then some (.bool (!dG ys x)) else none
 | _=>none
def h_:PyData->Bool
 | .none=>true
 | _=>false
def S1 (x:PyData):PyData->Option PyData
 | .none=>some (.bool (h_ x))
 | _=>none
def pj (x:PyData):PyData->Option PyData
 | .none=>some (.bool (!h_ x))
 | _=>none
def xo:PyData->PyData->Option PyData
 | .int i,.int j=>some (.int (i - j))
 | _,_=>none
def jl:PyData->PyData->Option PyData
 | .int i,.int j=>if 0 < j/\j < 2^64 then some (.int (i / j)) else none
 | _,_=>none
def iO:PyData->PyData->Option PyData
 | .int i,.int j=>if 0 < j then some (.int (i % j)) else none
 | _,_=>none
def Fq:PyData->PyData->Option PyData
 | .int i,.int j=>if 0<=j/\j<=1000000/\i.natAbs < 2^64 then some (.int (i^j.toNat)) else none
 | _,_=>none
def Nn:PyData->PyData->Option PyData
 | .int i,.int j=>some (.bool (decide (i < j)))
 | _,_=>none
def QH:PyData->PyData->Option PyData
 | .int i,.int j=>some (.bool (decide (i<=j)))
 | _,_=>none
def R_:PyData->PyData->Option PyData
 | .int i,.int j=>some (.bool (decide (j < i)))
 | _,_=>none
def m8:PyData->Option PyData
 | .int i=>some (.int (-i))
 | _=>none
def ia:PyData->PyData->Option PyData
 | .int i,.int j=>some (.int (i+j))
 | .list xs,.list ys=>if aq xs && aq ys && decide (xs.length+ys.length<=sizeLine) then some (.list (xs++ys)) else none
 | .tuple xs,.tuple ys=>if aq xs && aq ys && decide (xs.length+ys.length<=sizeLine) then some (.tuple (xs++ys)) else none
 | .str x,.str y=>if x.length+y.length<=sizeLine then some (.str (x++y)) else none
 | _,_=>none
def xu:PyData->PyData->Option PyData
 | .int i,.int j=>if (-(2^64) < i/\i < 2^64)∨(-(2^64) < j/\j < 2^64) then some (.int (i*j)) else none
 | _,_=>none
def Ip (xs:List PyData):PyData->M (Kd×PyData)
 | .int k=>if aq xs=true/\ -(2^63)<=k/\k < 2^63/\xs.length*k.toNat<=sizeLine then ah (.fr [],.list (List.replicate k.toNat xs).flatten) else none
 | _=>none
def isNew:Kd->Bool
 | .fr []=>true
 | _=>false
def Iq (k:Kd)(x y:PyData):M (Kd×PyData):=if isNew k=true then (match x with
 | .list xs=>Ip xs y
 | _=>none) else none
def NR (a b:EF):EF:=λΓ=>ar (a Γ) λx=>ar (b Γ) λy=>Iq x.1 x.2 y.2
def xq (n:Nat)(i:Int):Option Nat:=if 0<=i then (if i < n then some i.toNat else none) else if -(n:Int)<=i then some (i+n).toNat else none
def jE {α:Type}(xs:List α)(i:Int):Option α:=(xq xs.length i).bind λj=>xs[j]?
def dU:PyData->PyData->Option PyData
 | .list xs,.int i=>jE xs i
 | .tuple xs,.int i=>jE xs i
 | .str x,.int i=>if x.length<=sizeLine then (jE x.cps.toList i).map λc=> .str ⟨#[c]⟩ else none
 | _,_=>none
def jI:List PyData->Option PyData
 | [.list xs]=>some (.int xs.length)
 | [.tuple xs]=>some (.int xs.length)
 | [.str x]=>if x.length<=sizeLine then some (.int x.length) else none
 | _=>none
def p6:List PyData->Option PyData
 | [.list xs]=>if aq xs then some (.list xs) else none
 | [.tuple xs]=>if aq xs then some (.list xs) else none
 | _=>none
def ib:List PyData->Option PyData
 | [.list xs]=>if aq xs then some (.tuple xs) else none
 | [.tuple xs]=>if aq xs then some (.tuple xs) else none
 | _=>none
def uK (n:String):PyData->Bool
 | .none=>false
 | .bool _=>n== "bool" || n== "int"
 | .int _=>n== "int"
 | .str _=>n== "str"
 | .list _=>n== "list"
 | .tuple _=>n== "tuple"
 | .dict _=>n== "dict"
def Ck (n:String)(a:EF):EF:=λΓ=>ar (a Γ) λx=>ah (.fr [],.bool (uK n x.2))
def Fs (i:Nat)(Γ:bD):bD:=match Γ[i]? with
 | some (some (_,d))=>Γ.set i (some (false,d))
 | _=>Γ
def Ft (l:List Nat)(Γ:bD):bD:=l.foldl (λΓ i=>Fs i Γ) Γ
def zv (Γ:bD):bD:=Γ.map λs=>s.map λp=>(false,p.2)
def kP (Γ:bD)(i:Nat)(k:Kd)(d:PyData):bD:=match k with
 | .fr []=>Γ.set i (some (true,d))
 | .fr (j :: l)=>(Ft (j :: l) Γ).set i (some (false,d))
 | .base=>Γ.set i (some (false,d))
 | .any=>(zv Γ).set i (some (false,d))
def cS (i:Nat):GF:=λk d Γ=>some (kP Γ i k d)
def Hd:Kd->Kd
 | .fr []=> .fr []
 | .fr (_ :: _)=> .any
 | .base=> .base
 | .any=> .any
def uL (Γ:bD):List Nat->Kd->List PyData->bD
 | i :: is,k,d :: ds=>uL (kP Γ i (eR k d) d) is k ds
 | _,_,_=>Γ
def mI (is:List Nat):GF:=λk d Γ=>match d with
 | .tuple ds=>if ds.length=is.length then some (uL Γ is (Hd k) ds) else none
 | _=>none
def mS (k:Kd)(Γ:bD):bD:=match k with
 | .fr []=>Γ
 | .fr (j :: l)=>Ft (j :: l) Γ
 | .base=>Γ
 | .any=>zv Γ
def itemsOf:PyData->Option (List PyData)
 | .list xs=>some xs
 | .tuple xs=>some xs
 | _=>none
def pk (e:EF):IF:=λΓ=>ar (e Γ) λx=>ar (mo (itemsOf x.2)) λds=>ah (x.1,ds)
def Fv:PyData->M (Kd×List PyData)
 | .int n=>if -(2^62)<=n/\n < 2^62 then ah (.fr [],(List.range n.toNat).map λi=> .int (i:Nat)) else none
 | _=>none
def fK (e:EF):IF:=λΓ=>ar (e Γ) λx=>Fv x.2
def oW (Γ:bD)(ix:List Nat):bD:=ix.map λk=>(Γ[k]?).join.map λp=>(false,p.2)
def fE (ft:TF)(fe:EF)(cap:bD):List PyData->Option (List (Kd×PyData))
 | []=>some []
 | d :: ds=>match ft (some (false,d) :: cap) with
  | some (.ok true)=>match fe (some (false,d) :: cap) with
   | some (.ok x)=>(fE ft fe cap ds).map (x :: ·)
   | _=>none
  | some (.ok false)=>fE ft fe cap ds
  | _=>none
def iH:List (Kd×PyData)->Option Kd
 | []=>some (.fr [])
 | (.fr [],_) :: r=>iH r
 | (.base,_) :: r=>(iH r).map λ_=> .any
 | _ :: _=>none
def gm:TF:=λ_=>ah true
def cI (it:IF)(ix:List Nat)(ft:TF)(fe:EF):EF:=λΓ=>ar (it Γ) λx=>ar (mo (fE ft fe (oW Γ ix) x.2)) λys=>ar (mo (iH ys)) λk=>if x.2.length<=100000 then ah (k,.list (ys.map Prod.snd)) else none
def au (f g:SF):SF:=λΓ=>ar (f Γ) λo=>match o with
 | .nx Γ'=>g Γ'
 | o=>ah o
def cA:SF:=λΓ=>ah (.nx Γ)
def NS:SF:=λΓ=>ah (.ct Γ)
def lR:Kd->Bool
 | .fr _=>true
 | _=>false
def ck (e:EF):SF:=λΓ=>ar (e Γ) λx=>ah (.rt (lR x.1) x.2)
def Ld:SF:=λ_=>none
def aC (i:Nat)(e:EF):SF:=λΓ=>ar (e Γ) λx=>ah (.nx (kP Γ i x.1 x.2))
def jm (t:TF)(a b:SF):SF:=λΓ=>ar (t Γ) λc=>if c=true then a Γ else b Γ
def xw (i j:Nat):SF:=λΓ=>match Γ[j]? with
 | some (some (true,d))=>if bL d then ah (.nx (Γ.set i (some (true,d)))) else if i=j then none else ah (.nx ((Γ.set j none).set i (some (true,d))))
 | some (some (false,d))=>ah (.nx (kP Γ i (eR .base d) d))
 | _=>none
def Le (g:GF)(e:EF):SF:=λΓ=>ar (e Γ) λx=>ar (mo (g x.1 x.2 Γ)) λΓ'=>ah (.nx Γ')
def bj (g:GF)(b:SF):List PyData->bD->M Out
 | [],Γ=>ah (.nx Γ)
 | d :: ds,Γ=>ar (mo (g (eR .base d) d Γ)) λΓ1=>ar (b Γ1) λo=>match o with
  | .nx Γ'=>bj g b ds Γ'
  | .ct Γ'=>bj g b ds Γ'
  | .bk Γ'=>ah (.nx Γ')
  | .rt o d=>ah (.rt o d)
def bU (it:IF)(g:GF)(b:SF):SF:=λΓ=>ar (it Γ) λx=>bj g b x.2 (mS x.1 Γ)
def gu (n:Nat)(t:TF)(b:SF)(Γ:bD):M Out:=match n with
 | 0=>none
 | n+1=>ar (t Γ) λc=>if c=true then ar (b Γ) λo=>(match o with
   | .nx Γ'=>gu n t b Γ'
   | .ct Γ'=>gu n t b Γ'
   | .bk Γ'=>ah (.nx Γ')
   | .rt o d=>ah (.rt o d)) else ah (.nx Γ)
def sI:Nat:=1000000
def pr (n:Nat)(t:TF)(b:SF):SF:=λΓ=>gu n t b Γ
def jo (i:Nat)(e:EF):SF:=λΓ=>match Γ[i]? with
 | some (some (true,.list xs))=>ar (e Γ) λx=>match x.1 with
  | .fr []=>if xs.length < sizeLine then ah (.nx (Γ.set i (some (true,.list (xs++[x.2]))))) else none
  | .fr [j]=>if xs.length < sizeLine/\i≠j then ah (.nx ((Γ.set j none).set i (some (true,.list (xs++[x.2]))))) else none
  | _=>none
 | _=>none
def Pt:Kd->Bool
 | .fr []=>true
 | .base=>true
 | _=>false
def Fx (k:Kd):PyData->Option (List PyData)
 | .list ys=>if Pt k=true then some ys else none
 | .tuple ys=>some ys
 | _=>none
def Fy (i:Nat)(e:EF):SF:=λΓ=>match Γ[i]? with
 | some (some (true,.list xs))=>ar (e Γ) λx=>match Fx x.1 x.2 with
  | some ys=>if aq ys=true/\xs.length+ys.length<=sizeLine then ah (.nx (Γ.set i (some (true,.list (xs++ys))))) else none
  | none=>none
 | _=>none
def Ir (i:Nat)(j e:EF):SF:=λΓ=>ar (e Γ) λx=>match Γ[i]? with
 | some (some (true,.list xs))=>ar (j Γ) λy=>match y.2 with
  | .int n=>match xq xs.length n with
   | some m=>if bL x.2 && aq xs then ah (.nx (Γ.set i (some (true,.list (xs.set m x.2))))) else none
   | none=>none
  | _=>none
 | _=>none
def eD (n:Nat)(ds:List PyData):bD:=ds.map (λd=>some (false,d))++List.replicate (n - ds.length) none
def eS (n:Nat)(f:SF):FF:=λds=>ar (f (eD n ds)) λo=>match o with
 | .rt o d=>ah (o,d)
 | .nx _=>ah (true,.none)
 | _=>none
def Cm:PyData->Option PyData
 | .list xs=>if aq xs then some (.tuple xs.reverse) else none
 | _=>none
def xx (x:PyData):List PyData->Option Nat
 | []=>none
 | y :: ys=>if PyData.eqv y x then some 0 else (xx x ys).map (· +1)
def QI (n d:Nat):Option Int->Nat
 | none=>d
 | some v=>if v < 0 then (v+(n:Int)).toNat else min v.toNat n
def cutD (xs:List PyData)(lo hi:Option Int):List PyData:=(xs.drop (QI xs.length 0 lo)).take (QI xs.length xs.length hi - QI xs.length 0 lo)
def oI:PyData->M (Option Int)
 | .int n=>ah (some n)
 | _=>none
def oE:Option EF->bD->M (Option Int)
 | none,_=>ah none
 | some f,Γ=>ar (f Γ) λx=>oI x.2
def S2 (d:PyData)(lo hi:Option Int):Option PyData:=match d with
 | .list xs=>if aq xs=true then some (.list (cutD xs lo hi)) else none
 | .tuple xs=>if aq xs=true then some (.tuple (cutD xs lo hi)) else none
 | _=>none
def Lf (a:EF)(lo hi:Option EF):EF:=λΓ=>ar (a Γ) λx=>ar (oE lo Γ) λl=>ar (oE hi Γ) λh=>ar (mo (S2 x.2 l h)) λz=>ah (.fr [],z)
def NT (k:Kd):PyData->M (Kd×List PyData)
 | .tuple xs=>ah (k,xs.reverse)
 | _=>none
def Lg (e:EF):IF:=λΓ=>ar (e Γ) λx=>NT x.1 x.2
mutual
def nest:Nat->PyData->Bool
 | _,.int _=>true
 | _,.none=>true
 | n+1,.tuple ds=>nests n ds
 | _,_=>false
def nests:Nat->List PyData->Bool
 | _,[]=>true
 | n,d :: ds=>nest n d && nests n ds
end
def Co:Int:=4238894112
mutual
def iK:PyData->Int
 | .int i=>hashInt i
 | .tuple xs=>reduceHash (Builtin.Tuple.tupleHashOf (lS xs))
 | _=>Co
def lS:List PyData->List Int
 | []=> []
 | d :: ds=>iK d :: lS ds
end
def fM:PyData->Bool
 | .tuple ds=>nests 7 ds
 | _=>false
def Fz:PyData->Bool
 | .int _=>true
 | _=>false
abbrev oZ:=List (PyData×PyData)
def jv (kvs:oZ):Bool:=kvs.all λp=>fM p.1
def allI (kvs:oZ):Bool:=kvs.all λp=>Fz p.1
def gA (kvs:oZ)(x:PyData):Bool:=(fM x && jv kvs) || (Fz x && allI kvs)
def pw (kvs:oZ)(x:PyData):Bool:=kvs.any λp=>PyData.eqv p.1 x
def jp (kvs:oZ)(x:PyData):Option PyData:=(kvs.find? λp=>PyData.eqv p.1 x).map (·.2)
def putK (kvs:oZ)(k v:PyData):oZ:=if pw kvs k=true then kvs.map λp=>if PyData.eqv p.1 k=true then (p.1,v) else p else kvs++[(k,v)]
def se (kvs more:oZ):oZ:=more.foldl (λacc p=>putK acc p.1 p.2) kvs
def gB (kvs:oZ):Bool:=aq (kvs.map (·.2))
def Cp (x y:PyData):Option PyData:=match y with
 | .dict kvs=>if gA kvs x=true then some (.bool (pw kvs x)) else none
 | y=>Lc x y
def fZ (x y:PyData):Option PyData:=match y with
 | .dict kvs=>if gA kvs x=true then some (.bool (!pw kvs x)) else none
 | y=>h9 x y
def zw (x y:PyData):Option PyData:=match x with
 | .dict kvs=>if gA kvs y=true then jp kvs y else none
 | x=>dU x y
def uM:EF:=λ_=>ah (.fr [],.dict [])
def Cq (a b:EF):EF:=λΓ=>ar (a Γ) λx=>ar (b Γ) λy=>if gA [] x.2=true/\bL y.2=true then ah (.fr [],.dict [(x.2,y.2)]) else none
def uq:List PyData->Option PyData
 | [.dict kvs]=>if kvs.isEmpty=false/\jv kvs=true/\gB kvs=true/\(kvs.map λp=>iK p.1).Nodup then some (.dict kvs) else none
 | _=>none
def NU (i:Nat):Kd->Bool
 | .fr l=> !l.contains i
 | .base=>true
 | .any=>false
def Iu (i:Nat)(k:Kd)(kvs:oZ):PyData->Option oZ
 | .dict more=>if NU i k=true/\((kvs.isEmpty=false/\jv kvs=true/\jv more=true)∨(allI kvs=true/\allI more=true))/\gB kvs=true/\gB more=true/\kvs.length+more.length<=sizeLine then some (se kvs more) else none
 | _=>none
def He (i:Nat)(e:EF):SF:=λΓ=>match Γ[i]? with
 | some (some (true,.dict kvs))=>ar (e Γ) λx=>match Iu i x.1 kvs x.2 with
  | some kvs'=>ah (.nx (Γ.set i (some (true,.dict kvs'))))
  | none=>none
 | _=>none
def uN (i:Nat)(j e:EF):SF:=λΓ=>ar (e Γ) λx=>match Γ[i]? with
 | some (some (true,.dict kvs))=>ar (j Γ) λy=>if gA kvs y.2=true/\bL x.2=true/\gB kvs=true/\kvs.length < sizeLine then ah (.nx (Γ.set i (some (true,.dict (putK kvs y.2 x.2))))) else none
 | _=>none
def yw (i:Nat)(j e:EF):SF:=λΓ=>match Γ[i]? with
 | some (some (true,.dict _))=>uN i j e Γ
 | _=>Ir i j e Γ
def Hf:oZ->PyData->PyData->Option oZ
 | [],k,n=>some [(k,.list [n])]
 | (k',v) :: r,k,n=>if PyData.eqv k' k=true then (match v with
  | .list xs=>if aq xs=true/\xs.length < sizeLine then some ((k',.list (xs++[n])) :: r) else none
  | _=>none) else (Hf r k n).map ((k',v) :: ·)
def gn:Nat->List PyData->List PyData
 | _,[]=> []
 | n,d :: ds=> .tuple [.int (n:Int),d] :: gn (n+1) ds
def NV (k:Kd):PyData->M (Kd×List PyData)
 | .tuple xs=>ah (k,gn 0 xs)
 | _=>none
def zx (e:EF):IF:=λΓ=>ar (e Γ) λx=>NV x.1 x.2
end Y
namespace L2
open PySem PySem.Spec PyProof.Rows Y
abbrev NW:=List (PyData×V×V)×Nat
def uO (a:Addr)(ks:NW)(h:Heap):Prop :=
 ks.1.length<=sizeLine/\(a==sysModules)=false/\((∀k∈ks.1,fM k.1=true)∨(∀k∈ks.1,Fz k.1=true))/\(ks.1.map (·.1)).Nodup/\∃o es,h.get? a=some o/\o.ExactDict/\o.data= .dict es ks.2/\
  Paired (λ(k:PyData×V×V) (e:DictEntry)=>e.hash=iK k.1/\RelV k.2.1 e.key/\RelV k.2.2 e.val) ks.1 es.toList
def HO.dct (a:Addr)(ks:NW):HO:=.ext (uO a ks)
mutual
def aJ (K:Frag)(H:Hp):PyData->V->Prop
 | .none,v=>v= .non
 | .bool b,v=>v= .bl b
 | .int i,v=>v= .int i
 | .str x,v=>v= .str x
 | .list xs,v=>∃a vs,v= .ref a/\iV K H a vs/\aA K H xs vs
 | .tuple xs,v=>∃a vs,v= .ref a/\gz K H a vs/\aA K H xs vs
 | .dict kvs,v=>∃a ks,v= .ref a/\Rd H a (.dct a ks)/\a_ K H kvs ks.1
def aA (K:Frag)(H:Hp):List PyData->List V->Prop
 | [],vs=>vs=[]
 | d :: ds,vs=>∃v r,vs=v :: r/\aJ K H d v/\aA K H ds r
def a_ (K:Frag)(H:Hp):List (PyData×PyData)->List (PyData×V×V)->Prop
 | [],ks=>ks=[]
 | (k,d) :: r,ks=>∃kv v q,ks=(k,kv,v) :: q/\aJ K H k kv/\aJ K H d v/\a_ K H r q
end
mutual
def IsT (K:Frag)(H:Hp):PyData->V->List Addr->Prop
 | .none,v,as=>v= .non/\as=[]
 | .bool b,v,as=>v= .bl b/\as=[]
 | .int i,v,as=>v= .int i/\as=[]
 | .str x,v,as=>v= .str x/\as=[]
 | .list xs,v,as=>∃a vs bs,v= .ref a/\H a=some (.lst vs)/\aE K H xs vs bs/\as=a :: bs
 | .tuple xs,v,as=>∃a vs,v= .ref a/\gz K H a vs/\aE K H xs vs as
 | .dict kvs,v,as=>∃a ks bs,v= .ref a/\H a=some (.dct a ks)/\aR K H kvs ks.1 bs/\as=a :: bs
def aE (K:Frag)(H:Hp):List PyData->List V->List Addr->Prop
 | [],vs,as=>vs=[]/\as=[]
 | d :: ds,vs,as=>∃v r a1 a2,vs=v :: r/\as=a1++a2/\IsT K H d v a1/\aE K H ds r a2
def aR (K:Frag)(H:Hp):List (PyData×PyData)->List (PyData×V×V)->List Addr->Prop
 | [],ks,as=>ks=[]/\as=[]
 | (k,d) :: r,ks,as=>∃kv v q a1 a2,ks=(k,kv,v) :: q/\as=a1++a2/\IsT K H k kv []/\IsT K H d v a1/\aR K H r q a2
end
section
variable {K:Frag}{H H':Hp}
theorem cx {i:Int}:aJ K H (.int i) (.int i):=by simp only[aJ]
theorem Hg:aJ K H .none .non:=by simp only[aJ]
theorem dD {b:Bool}:aJ K H (.bool b) (.bl b):=by simp only[aJ]
theorem Hh {x:Str}:aJ K H (.str x) (.str x):=by simp only[aJ]
theorem bM:aA K H [] []:=by simp only[aA]
theorem bq {d:PyData}{ds:List PyData}{v:V}{vs:List V}(h:aJ K H d v)(t:aA K H ds vs):aA K H (d :: ds) (v :: vs):=by
 simp only[aA];exact⟨v,vs,rfl,h,t⟩
theorem ur {ds:List PyData}{a:Addr}{vs:List V}(h:gz K H a vs)(t:aA K H ds vs):aJ K H (.tuple ds) (.ref a):=by
 simp only[aJ];exact⟨a,vs,rfl,h,t⟩
theorem zy {ds:List PyData}{a:Addr}{vs:List V}(h:iV K H a vs)(t:aA K H ds vs):aJ K H (.list ds) (.ref a):=by
 simp only[aJ];exact⟨a,vs,rfl,h,t⟩
theorem aM {ds:List PyData}{v:V}(h:aJ K H (.tuple ds) v):∃a vs,v= .ref a/\gz K H a vs/\aA K H ds vs:=by
 simpa only[aJ] using h
theorem bg {ds:List PyData}{v:V}(h:aJ K H (.list ds) v):∃a vs,v= .ref a/\iV K H a vs/\aA K H ds vs:=by
 simpa only[aJ] using h
theorem eE {kvs:List (PyData×PyData)}{v:V}(h:aJ K H (.dict kvs) v):∃a ks,v= .ref a/\Rd H a (.dct a ks)/\a_ K H kvs ks.1:=by
 simpa only[aJ] using h
theorem aF {i:Int}{v:V}(h:aJ K H (.int i) v):v= .int i:=by simpa only[aJ] using h
theorem j1 {i:Str}{v:V}(h:aJ K H (.str i) v):v= .str i:=by simpa only[aJ] using h
theorem jT {i:Bool}{v:V}(h:aJ K H (.bool i) v):v= .bl i:=by simpa only[aJ] using h
theorem lT {v:V}(h:aJ K H .none v):v= .non:=by simpa only[aJ] using h
theorem ap:∀{ds:List PyData} {vs:List V},aA K H ds vs->vs.length=ds.length
 | [],vs,h=>by simp only[aA] at h;subst h;rfl
 | d :: ds,vs,h=>by
  simp only[aA] at h
  obtain⟨v,r,rfl,_,t⟩:=h
  rw[Kv,Kv,ap t]
theorem j2:∀{ds:List PyData} {vs:List V} {i:Nat} {d:PyData},aA K H ds vs->ds[i]? =some d->∃v,vs[i]? =some v/\aJ K H d v
 | [],_,_,_,_,e=>by simp at e
 | c :: ds,vs,i,d,h,e=>by
  simp only[aA] at h
  obtain⟨v,r,rfl,hv,t⟩:=h
  cases i with
  | zero=>simp at e;subst e;exact⟨v,rfl,hv⟩
  | succ i=>
   obtain⟨w,h1,h2⟩:=j2 (i:=i) (d:=d) t (by simpa using e)
   exact⟨w,by simpa using h1,h2⟩
theorem jU:∀{ds:List PyData} {vs:List V} {i:Nat} {v:V},aA K H ds vs->vs[i]? =some v->∃d,ds[i]? =some d/\aJ K H d v
 | [],vs,i,v,h,e=>by simp only[aA] at h;subst h;simp at e
 | c :: ds,vs,i,v,h,e=>by
  simp only[aA] at h
  obtain⟨v',r,rfl,hv,t⟩:=h
  cases i with
  | zero=>simp at e;subst e;exact⟨c,rfl,hv⟩
  | succ i=>
   obtain⟨w,h1,h2⟩:=jU (i:=i) (v:=v) t (by simpa using e)
   exact⟨w,by simpa using h1,h2⟩
theorem gY:∀{ds es:List PyData} {vs ws:List V},aA K H ds vs->aA K H es ws->aA K H (ds++es) (vs++ws)
 | [],es,vs,ws,h,t=>by simp only[aA] at h;subst h;exact t
 | d :: ds,es,vs,ws,h,t=>by
  simp only[aA] at h
  obtain⟨v,r,rfl,hv,tl⟩:=h
  exact bq hv (gY tl t)
theorem Iv {ds:List PyData}{d:PyData}{vs:List V}{v:V}(h:aA K H ds vs)(t:aJ K H d v):aA K H (ds++[d]) (vs++[v]):=gY h (bq t bM)
theorem lU:∀{ds:List PyData} {vs:List V},aA K H ds vs->aA K H ds.reverse vs.reverse
 | [],vs,h=>by simp only[aA] at h;subst h;exact bM
 | d :: ds,vs,h=>by
  simp only[aA] at h
  obtain⟨v,r,rfl,hv,tl⟩:=h
  rw[Y3,Y3]
  exact Iv (lU tl) hv
theorem yx:∀{ds:List PyData} {vs:List V} (n:Nat),aA K H ds vs->aA K H (ds.take n) (vs.take n)
 | _,_,0,_=>by simp only[List.take_zero];exact bM
 | [],vs,n+1,h=>by simp only[aA] at h;subst h;simp only[List.take_nil];exact bM
 | d :: ds,vs,n+1,h=>by
  simp only[aA] at h
  obtain⟨v,r,rfl,hv,tl⟩:=h
  exact bq hv (yx n tl)
theorem yy:∀{ds:List PyData} {vs:List V} (n:Nat),aA K H ds vs->aA K H (ds.drop n) (vs.drop n)
 | _,_,0,h=>h
 | [],vs,n+1,h=>by simp only[aA] at h;subst h;simp only[List.drop_nil];exact bM
 | d :: ds,vs,n+1,h=>by
  simp only[aA] at h
  obtain⟨v,r,rfl,hv,tl⟩:=h
  exact yy n tl
theorem Cr:∀{ds:List PyData} {vs:List V} {d:PyData} {v:V} (n:Nat),aA K H ds vs->aJ K H d v->aA K H (ds.set n d) (vs.set n v)
 | [],vs,_,_,n,h,_=>by simp only[aA] at h;subst h;simp only[List.set_nil];exact bM
 | c :: ds,vs,d,v,n,h,q=>by
  simp only[aA] at h
  obtain⟨v',r,rfl,hv,tl⟩:=h
  cases n with
  | zero=>exact bq q tl
  | succ n=>exact bq hv (Cr n tl q)
theorem Ct:∀{ds:List PyData} {vs:List V} (k:Nat),aA K H ds vs->aA K H (List.replicate k ds).flatten (List.replicate k vs).flatten
 | _,_,0,_=>bM
 | _,_,k+1,h=>by
  rw[U6,U6,UJ,UJ]
  exact gY h (Ct k h)
theorem q9:∀(ns:List Int),aA K H (ns.map PyData.int) (ns.map V.int)
 | []=>bM
 | n :: ns=>bq cx (q9 ns)
theorem p7:∀{ns:List Int} {vs:List V},aA K H (ns.map PyData.int) vs->vs=ns.map V.int
 | [],vs,h=>by simpa only[aA,Yx] using h
 | n :: ns,vs,h=>by
  simp only[aA,KZ] at h
  obtain⟨v,r,rfl,hv,tl⟩:=h
  rw[aF hv,p7 tl,KZ]
theorem Same.pz {a:Addr}{xs:List V}(e:Same H H')(h:gz K H a xs):gz K H' a xs:=by
 rcases h with(h | ⟨o,h⟩) | h
 ·exact .inl (.inl (e _ _ h))
 ·exact .inl (.inr ⟨o,e _ _ h⟩)
 ·exact .inr h
theorem Same.rd {a:Addr}{u:HO}(e:Same H H')(h:Rd H a u):Rd H' a u:=by
 rcases h with h | ⟨o,h⟩
 ·exact .inl (e _ _ h)
 ·exact .inr ⟨o,e _ _ h⟩
mutual
theorem aJ.same (e:Same H H'):∀(d:PyData) (v:V),aJ K H d v->aJ K H' d v
 | .none,v,h=>by simpa only[aJ] using h
 | .bool b,v,h=>by simpa only[aJ] using h
 | .int i,v,h=>by simpa only[aJ] using h
 | .str x,v,h=>by simpa only[aJ] using h
 | .list xs,v,h=>by
  simp only[aJ] at h⊢
  obtain⟨a,vs,e1,h1,h2⟩:=h
  exact⟨a,vs,e1,e.seq h1,aA.same e xs vs h2⟩
 | .tuple xs,v,h=>by
  simp only[aJ] at h⊢
  obtain⟨a,vs,e1,h1,h2⟩:=h
  exact⟨a,vs,e1,e.pz h1,aA.same e xs vs h2⟩
 | .dict kvs,v,h=>by
  simp only[aJ] at h⊢
  obtain⟨a,ks,e1,h1,h2⟩:=h
  exact⟨a,ks,e1,e.rd h1,a_.same e kvs ks.1 h2⟩
theorem aA.same (e:Same H H'):∀(ds:List PyData) (vs:List V),aA K H ds vs->aA K H' ds vs
 | [],vs,h=>by simpa only[aA] using h
 | d :: ds,vs,h=>by
  simp only[aA] at h⊢
  obtain⟨v,r,e1,h1,h2⟩:=h
  exact⟨v,r,e1,aJ.same e d v h1,aA.same e ds r h2⟩
theorem a_.same (e:Same H H'):∀(ds:List (PyData×PyData)) (ks:List (PyData×V×V)),a_ K H ds ks->a_ K H' ds ks
 | [],ks,h=>by simpa only[a_] using h
 | (k,d) :: r,ks,h=>by
  simp only[a_] at h⊢
  obtain⟨kv,v,q,e1,h1,h2,h3⟩:=h
  exact⟨kv,v,q,e1,aJ.same e k kv h1,aJ.same e d v h2,a_.same e r q h3⟩
end
theorem Same.upd {a:Addr}{o:HO}(h:H a=none):Same H (upd H a o):=λb u e=>by
 rw[a9 (fJ e h)];exact e
theorem Same.QJ {H0:Hp}{a:Addr}{o:HO}(s:Same H0 H)(h:H0 a=none):Same H0 (L2.upd H a o):=λb u e=>by
 rw[a9 (fJ e h)];exact s b u e
mutual
theorem IsT.same (e:Same H H'):∀(d:PyData) (v:V) (as:List Addr),IsT K H d v as->IsT K H' d v as
 | .none,v,as,h=>by simpa only[IsT] using h
 | .bool b,v,as,h=>by simpa only[IsT] using h
 | .int i,v,as,h=>by simpa only[IsT] using h
 | .str x,v,as,h=>by simpa only[IsT] using h
 | .list xs,v,as,h=>by
  simp only[IsT] at h⊢
  obtain⟨a,vs,bs,e1,h1,h2,h3⟩:=h
  exact⟨a,vs,bs,e1,e _ _ h1,aE.same e xs vs bs h2,h3⟩
 | .tuple xs,v,as,h=>by
  simp only[IsT] at h⊢
  obtain⟨a,vs,e1,h1,h2⟩:=h
  exact⟨a,vs,e1,e.pz h1,aE.same e xs vs as h2⟩
 | .dict kvs,v,as,h=>by
  simp only[IsT] at h⊢
  obtain⟨a,ks,bs,e1,h1,h2,h3⟩:=h
  exact⟨a,ks,bs,e1,e _ _ h1,aR.same e kvs ks.1 bs h2,h3⟩
theorem aE.same (e:Same H H'):∀(ds:List PyData) (vs:List V) (as:List Addr),aE K H ds vs as->aE K H' ds vs as
 | [],vs,as,h=>by simpa only[aE] using h
 | d :: ds,vs,as,h=>by
  simp only[aE] at h⊢
  obtain⟨v,r,a1,a2,e1,e2,h1,h2⟩:=h
  exact⟨v,r,a1,a2,e1,e2,IsT.same e d v a1 h1,aE.same e ds r a2 h2⟩
theorem aR.same (e:Same H H'):∀(ds:List (PyData×PyData)) (ks:List (PyData×V×V)) (as:List Addr),aR K H ds ks as->aR K H' ds ks as
 | [],ks,as,h=>by simpa only[aR] using h
 | (k,d) :: r,ks,as,h=>by
  simp only[aR] at h⊢
  obtain⟨kv,v,q,a1,a2,e1,e2,h1,h2,h3⟩:=h
  exact⟨kv,v,q,a1,a2,e1,e2,IsT.same e k kv [] h1,IsT.same e d v a1 h2,aR.same e r q a2 h3⟩
end
mutual
theorem IsT.toD:∀(d:PyData) (v:V) (as:List Addr),IsT K H d v as->aJ K H d v
 | .none,v,as,h=>by simp only[IsT] at h;simp only[aJ];exact h.1
 | .bool b,v,as,h=>by simp only[IsT] at h;simp only[aJ];exact h.1
 | .int i,v,as,h=>by simp only[IsT] at h;simp only[aJ];exact h.1
 | .str x,v,as,h=>by simp only[IsT] at h;simp only[aJ];exact h.1
 | .list xs,v,as,h=>by
  simp only[IsT] at h;simp only[aJ]
  obtain⟨a,vs,bs,e1,h1,h2,h3⟩:=h
  exact⟨a,vs,e1,iV.of h1,aE.toD xs vs bs h2⟩
 | .tuple xs,v,as,h=>by
  simp only[IsT] at h;simp only[aJ]
  obtain⟨a,vs,e1,h1,h2⟩:=h
  exact⟨a,vs,e1,h1,aE.toD xs vs as h2⟩
 | .dict kvs,v,as,h=>by
  simp only[IsT] at h;simp only[aJ]
  obtain⟨a,ks,bs,e1,h1,h2,h3⟩:=h
  exact⟨a,ks,e1,.inl h1,aR.toD kvs ks.1 bs h2⟩
theorem aE.toD:∀(ds:List PyData) (vs:List V) (as:List Addr),aE K H ds vs as->aA K H ds vs
 | [],vs,as,h=>by simp only[aE] at h;simp only[aA];exact h.1
 | d :: ds,vs,as,h=>by
  simp only[aE] at h;simp only[aA]
  obtain⟨v,r,a1,a2,e1,e2,h1,h2⟩:=h
  exact⟨v,r,e1,IsT.toD d v a1 h1,aE.toD ds r a2 h2⟩
theorem aR.toD:∀(ds:List (PyData×PyData)) (ks:List (PyData×V×V)) (as:List Addr),aR K H ds ks as->a_ K H ds ks
 | [],ks,as,h=>by simp only[aR] at h;simp only[a_];exact h.1
 | (k,d) :: r,ks,as,h=>by
  simp only[aR] at h;simp only[a_]
  obtain⟨kv,v,q,a1,a2,e1,e2,h1,h2,h3⟩:=h
  exact⟨kv,v,q,e1,IsT.toD k kv [] h1,IsT.toD d v a1 h2,aR.toD r q a2 h3⟩
end
mutual
theorem aJ.toT:∀(d:PyData) (v:V),bL d=true->aJ K H d v->IsT K H d v []
 | .none,v,_,h=>by simp only[aJ] at h;simp only[IsT];exact⟨h,trivial⟩
 | .bool b,v,_,h=>by simp only[aJ] at h;simp only[IsT];exact⟨h,trivial⟩
 | .int i,v,_,h=>by simp only[aJ] at h;simp only[IsT];exact⟨h,trivial⟩
 | .str x,v,_,h=>by simp only[aJ] at h;simp only[IsT];exact⟨h,trivial⟩
 | .list xs,v,n,h=>by simp[bL] at n
 | .tuple xs,v,n,h=>by
  simp only[aJ] at h;simp only[IsT]
  obtain⟨a,vs,e1,h1,h2⟩:=h
  exact⟨a,vs,e1,h1,aA.toT xs vs (by simpa [bL] using n) h2⟩
 | .dict kvs,v,n,h=>by simp[bL] at n
theorem aA.toT:∀(ds:List PyData) (vs:List V),aq ds=true->aA K H ds vs->aE K H ds vs []
 | [],vs,_,h=>by simp only[aA] at h;simp only[aE];exact⟨h,trivial⟩
 | d :: ds,vs,n,h=>by
  simp only[aA] at h;simp only[aE]
  obtain⟨v,r,e1,h1,h2⟩:=h
  have n':bL d=true/\aq ds=true:=by simpa [aq] using n
  exact⟨v,r,[],[],e1,rfl,aJ.toT d v n'.1 h1,aA.toT ds r n'.2 h2⟩
end
mutual
theorem IsT.nil:∀(d:PyData) (v:V) (as:List Addr),bL d=true->IsT K H d v as->as=[]
 | .none,v,as,_,h=>by simp only[IsT] at h;exact h.2
 | .bool b,v,as,_,h=>by simp only[IsT] at h;exact h.2
 | .int i,v,as,_,h=>by simp only[IsT] at h;exact h.2
 | .str x,v,as,_,h=>by simp only[IsT] at h;exact h.2
 | .list xs,v,as,n,h=>by simp[bL] at n
 | .tuple xs,v,as,n,h=>by
  simp only[IsT] at h
  obtain⟨a,vs,e1,h1,h2⟩:=h
  exact aE.nil xs vs as (by simpa [bL] using n) h2
 | .dict kvs,v,as,n,h=>by simp[bL] at n
theorem aE.nil:∀(ds:List PyData) (vs:List V) (as:List Addr),aq ds=true->aE K H ds vs as->as=[]
 | [],vs,as,_,h=>by simp only[aE] at h;exact h.2
 | d :: ds,vs,as,n,h=>by
  simp only[aE] at h
  obtain⟨v,r,a1,a2,e1,e2,h1,h2⟩:=h
  have n':bL d=true/\aq ds=true:=by simpa [aq] using n
  rw[e2,IsT.nil d v a1 n'.1 h1,aE.nil ds r a2 n'.2 h2];rfl
end
def hZ:HO->Prop
 | .lst _=>True
 | .ext _=>True
 | _=>False
mutual
theorem IsT.live:∀(d:PyData) (v:V) (as:List Addr),IsT K H d v as->∀a∈as,∃o,H a=some o/\hZ o
 | .none,v,as,h=>by simp only[IsT] at h;rw[h.2];intro a ha;cases ha
 | .bool b,v,as,h=>by simp only[IsT] at h;rw[h.2];intro a ha;cases ha
 | .int i,v,as,h=>by simp only[IsT] at h;rw[h.2];intro a ha;cases ha
 | .str x,v,as,h=>by simp only[IsT] at h;rw[h.2];intro a ha;cases ha
 | .list xs,v,as,h=>by
  simp only[IsT] at h
  obtain⟨a,vs,bs,e1,h1,h2,rfl⟩:=h
  intro b hb
  rcases K2.mp hb with rfl | hb
  ·exact⟨_,h1,trivial⟩
  ·exact aE.live xs vs bs h2 b hb
 | .tuple xs,v,as,h=>by
  simp only[IsT] at h
  obtain⟨a,vs,e1,h1,h2⟩:=h
  exact aE.live xs vs as h2
 | .dict kvs,v,as,h=>by
  simp only[IsT] at h
  obtain⟨a,ks,bs,e1,h1,h2,rfl⟩:=h
  intro b hb
  rcases K2.mp hb with rfl | hb
  ·exact⟨_,h1,trivial⟩
  ·exact aR.live kvs ks.1 bs h2 b hb
theorem aE.live:∀(ds:List PyData) (vs:List V) (as:List Addr),aE K H ds vs as->∀a∈as,∃o,H a=some o/\hZ o
 | [],vs,as,h=>by simp only[aE] at h;rw[h.2];intro a ha;cases ha
 | d :: ds,vs,as,h=>by
  simp only[aE] at h
  obtain⟨v,r,a1,a2,e1,rfl,h1,h2⟩:=h
  intro a ha
  rcases Kk.mp ha with ha | ha
  ·exact IsT.live d v a1 h1 a ha
  ·exact aE.live ds r a2 h2 a ha
theorem aR.live:∀(ds:List (PyData×PyData)) (ks:List (PyData×V×V)) (as:List Addr),aR K H ds ks as->∀a∈as,∃o,H a=some o/\hZ o
 | [],ks,as,h=>by simp only[aR] at h;rw[h.2];intro a ha;cases ha
 | (k,d) :: r,ks,as,h=>by
  simp only[aR] at h
  obtain⟨kv,v,q,a1,a2,e1,rfl,h1,h2,h3⟩:=h
  intro a ha
  rcases Kk.mp ha with ha | ha
  ·exact IsT.live d v a1 h2 a ha
  ·exact aR.live r q a2 h3 a ha
end
theorem gz.upd {l:Addr}{o o':HO}{a:Addr}{xs:List V}(hl:H l=some o)(hm:hZ o)(h:gz K H a xs):gz K (upd H l o') a xs:=by
 rcases h with(h | ⟨ob,h⟩) | h
 ·exact .inl (.inl (by rw[a9 (Pk h hl (by intro z;subst z;exact hm))];exact h))
 ·exact .inl (.inr ⟨ob,by rw[a9 (Pk h hl (by intro z;subst z;exact hm))];exact h⟩)
 ·exact .inr h
mutual
theorem IsT.upd {l:Addr}{o o':HO}(hl:H l=some o)(hm:hZ o):∀(d:PyData) (v:V) (as:List Addr),l∉as->IsT K H d v as->IsT K (upd H l o') d v as
 | .none,v,as,_,h=>by simpa only[IsT] using h
 | .bool b,v,as,_,h=>by simpa only[IsT] using h
 | .int i,v,as,_,h=>by simpa only[IsT] using h
 | .str x,v,as,_,h=>by simpa only[IsT] using h
 | .list xs,v,as,n,h=>by
  simp only[IsT] at h⊢
  obtain⟨a,vs,bs,e1,h1,h2,rfl⟩:=h
  have n1:a≠l:=λe=>n (by rw[e];exact K8)
  exact⟨a,vs,bs,e1,by rw[a9 n1];exact h1,aE.upd hl hm xs vs bs (λz=>n (K9 _ z)) h2,rfl⟩
 | .tuple xs,v,as,n,h=>by
  simp only[IsT] at h⊢
  obtain⟨a,vs,e1,h1,h2⟩:=h
  exact⟨a,vs,e1,h1.upd hl hm,aE.upd hl hm xs vs as n h2⟩
 | .dict kvs,v,as,n,h=>by
  simp only[IsT] at h⊢
  obtain⟨a,ks,bs,e1,h1,h2,rfl⟩:=h
  have n1:a≠l:=λe=>n (by rw[e];exact K8)
  exact⟨a,ks,bs,e1,by rw[a9 n1];exact h1,aR.upd hl hm kvs ks.1 bs (λz=>n (K9 _ z)) h2,rfl⟩
theorem aE.upd {l:Addr}{o o':HO}(hl:H l=some o)(hm:hZ o):∀(ds:List PyData) (vs:List V) (as:List Addr),l∉as->aE K H ds vs as->aE K (upd H l o') ds vs as
 | [],vs,as,_,h=>by simpa only[aE] using h
 | d :: ds,vs,as,n,h=>by
  simp only[aE] at h⊢
  obtain⟨v,r,a1,a2,e1,rfl,h1,h2⟩:=h
  exact⟨v,r,a1,a2,e1,rfl,IsT.upd hl hm d v a1 (λz=>n (KY _ z)) h1,aE.upd hl hm ds r a2 (λz=>n (K1 _ z)) h2⟩
theorem aR.upd {l:Addr}{o o':HO}(hl:H l=some o)(hm:hZ o):∀(ds:List (PyData×PyData)) (ks:List (PyData×V×V)) (as:List Addr),l∉as->aR K H ds ks as->aR K (upd H l o') ds ks as
 | [],ks,as,_,h=>by simpa only[aR] using h
 | (k,d) :: r,ks,as,n,h=>by
  simp only[aR] at h⊢
  obtain⟨kv,v,q,a1,a2,e1,rfl,h1,h2,h3⟩:=h
  exact⟨kv,v,q,a1,a2,e1,rfl,IsT.upd hl hm k kv [] (by intro z;cases z) h1,IsT.upd hl hm d v a1 (λz=>n (KY _ z)) h2,aR.upd hl hm r q a2 (λz=>n (K1 _ z)) h3⟩
end
theorem lu:aE K H [] [] []:=by simp only[aE];exact⟨trivial,trivial⟩
theorem lw {d:PyData}{ds:List PyData}{v:V}{vs:List V}{a1 a2:List Addr}(h:IsT K H d v a1)(t:aE K H ds vs a2):aE K H (d :: ds) (v :: vs) (a1++a2):=by
 simp only[aE];exact⟨v,vs,a1,a2,rfl,rfl,h,t⟩
theorem Hi {ds:List PyData}{a:Addr}{vs:List V}{as:List Addr}(h:gz K H a vs)(t:aE K H ds vs as):IsT K H (.tuple ds) (.ref a) as:=by
 simp only[IsT];exact⟨a,vs,rfl,h,t⟩
theorem ic {ds:List PyData}{a:Addr}{vs:List V}{as:List Addr}(h:H a=some (.lst vs))(t:aE K H ds vs as):IsT K H (.list ds) (.ref a) (a :: as):=by
 simp only[IsT];exact⟨a,vs,as,rfl,h,t,rfl⟩
theorem jJ {kvs:List (PyData×PyData)}{a:Addr}{ks:NW}{as:List Addr}(h:H a=some (.dct a ks))(t:aR K H kvs ks.1 as):IsT K H (.dict kvs) (.ref a) (a :: as):=by
 simp only[IsT];exact⟨a,ks,as,rfl,h,t,rfl⟩
theorem dE {ds:List PyData}{v:V}{as:List Addr}(h:IsT K H (.list ds) v as):∃a vs bs,v= .ref a/\H a=some (.lst vs)/\aE K H ds vs bs/\as=a :: bs:=by
 simpa only[IsT] using h
theorem lV {ds:List PyData}{v:V}{as:List Addr}(h:IsT K H (.tuple ds) v as):∃a vs,v= .ref a/\gz K H a vs/\aE K H ds vs as:=by
 simpa only[IsT] using h
theorem fO {kvs:List (PyData×PyData)}{v:V}{as:List Addr}(h:IsT K H (.dict kvs) v as):∃a ks bs,v= .ref a/\H a=some (.dct a ks)/\aR K H kvs ks.1 bs/\as=a :: bs:=by
 simpa only[IsT] using h
theorem df {ds:List PyData}{vs:List V}{as:List Addr}(h:aE K H ds vs as):vs.length=ds.length:=ap (aE.toD _ _ _ h)
theorem fP:∀{ds es:List PyData} {vs ws:List V} {as bs:List Addr},aE K H ds vs as->aE K H es ws bs->aE K H (ds++es) (vs++ws) (as++bs)
 | [],es,vs,ws,as,bs,h,t=>by simp only[aE] at h;obtain⟨rfl,rfl⟩:=h;exact t
 | d :: ds,es,vs,ws,as,bs,h,t=>by
  simp only[aE] at h
  obtain⟨v,r,a1,a2,rfl,rfl,hv,tl⟩:=h
  rw[Xj]
  exact lw hv (fP tl t)
theorem uP:∀{ds:List PyData} {vs:List V} {as:List Addr} {i:Nat} {d:PyData},aE K H ds vs as->ds[i]? =some d->∃v bs,vs[i]? =some v/\IsT K H d v bs/\bs.Sublist as
 | [],_,_,_,_,_,e=>by simp at e
 | c :: ds,vs,as,i,d,h,e=>by
  simp only[aE] at h
  obtain⟨v,r,a1,a2,rfl,rfl,hv,tl⟩:=h
  cases i with
  | zero=>simp at e;subst e;exact⟨v,a1,rfl,hv,List.sublist_append_left _ _⟩
  | succ i=>
   obtain⟨w,bs,h1,h2,h3⟩:=uP (i:=i) (d:=d) tl (by simpa using e)
   exact⟨w,bs,by simpa using h1,h2,h3.trans (List.sublist_append_right _ _)⟩
end
def aX (K:Frag)(H H':Hp)(d:PyData)(v:V):Prop:=∃as,IsT K H' d v as/\as.Nodup/\∀a∈as,H a=none
def VR (K:Frag)(B:Hp)(φ:Nat->List Addr)(H H':Hp):Kd->PyData->V->Prop
 | .fr l,d,v=>∃as,IsT K H' d v as/\as.Nodup/\∀a∈as,(∃i∈l,a∈φ i)∨H a=none
 | .base,d,v=>aJ K B d v
 | .any,d,v=>aJ K H' d v
structure Rep (K:Frag)(B:Hp)(φ:Nat->List Addr)(Γ:bD)(σ:St)(H:Hp):Prop where
 bs:Same B H
 len:Γ.length=σ.length
 sl:∀i o d,Γ[i]? =some (some (o,d))->∃v,σ[i]? =some (some v)/\if o=true then IsT K H d v (φ i) else aJ K B d v
 nd:∀i,(φ i).Nodup
 nb:∀i,∀a∈φ i,B a=none/\∃o,H a=some o/\hZ o
 dj:∀i j,i≠j->∀a∈φ i,a∉φ j
def Runs (K:Frag)(Ew:Str->Hp->Prop)(B:Hp)(φ:Nat->List Addr)(H:Hp)(m:M (Kd×PyData))(Q:VK):Prop :=
 (∃k d,m=some (.ok (k,d))/\∀v H',Same H H'->VR K B φ H H' k d v->Q v H')∨(∃c,m=some (.ex c)/\∀H',Same B H'->Ew c H')
def sJ (Ew:Str->Hp->Prop)(B:Hp)(H:Hp)(m:M Bool)(Q:Bool->Hp->Prop):Prop :=
 (∃b,m=some (.ok b)/\∀H',Same H H'->Q b H')∨(∃c,m=some (.ex c)/\∀H',Same B H'->Ew c H')
def RV (K:Frag)(B H':Hp)(o:Bool)(d:PyData)(v:V):Prop :=
 if o=true then∃as,IsT K H' d v as/\as.Nodup/\∀a∈as,B a=none else aJ K H' d v
def fB (K:Frag)(Ew:Str->Hp->Prop)(B:Hp)(m:M Out)(D:Ends):Prop :=
 match m with
 | some (.ok (.nx Γ))=>∀B' φ σ H,Same B B'->Rep K B' φ Γ σ H->D.nx σ H
 | some (.ok (.bk Γ))=>∀B' φ σ H,Same B B'->Rep K B' φ Γ σ H->D.bk σ H
 | some (.ok (.ct Γ))=>∀B' φ σ H,Same B B'->Rep K B' φ Γ σ H->D.ct σ H
 | some (.ok (.rt o d))=>∀v H',Same B H'->RV K B H' o d v->D.rt v H'
 | some (.ex c)=>∀H',Same B H'->Ew c H'
 | none=>False
def tD (K:Frag)(Ew:Str->Hp->Prop)(f:EF):TE:=λσ H Q=>∃B φ Γ,Rep K B φ Γ σ H/\Runs K Ew B φ H (f Γ) Q
def QK (K:Frag)(Ew:Str->Hp->Prop)(f:TF):TT:=λσ H Q=>∃B φ Γ,Rep K B φ Γ σ H/\sJ Ew B H (f Γ) Q
def S3 (K:Frag)(Ew:Str->Hp->Prop)(f:SF):TS:=λD σ H=>∃B φ Γ,Rep K B φ Γ σ H/\fB K Ew B (f Γ) D
def DE (X:Cx)(K:Frag)(Ew:Str->Hp->Prop)(e:Expr)(f:EF):Prop:=PE X e (tD K Ew f)
def DT (X:Cx)(K:Frag)(Ew:Str->Hp->Prop)(e:Expr)(f:TF):Prop:=PT X e (QK K Ew f)
def DW (X:Cx)(K:Frag)(Ew:Str->Hp->Prop)(e:Expr)(f:TF):Prop:=PW X e (QK K Ew f)
def DS (X:Cx)(K:Frag)(Ew:Str->Hp->Prop)(s:Stmt)(f:SF):Prop:=PS X s (S3 K Ew f)
def Km (X:Cx)(K:Frag)(Ew:Str->Hp->Prop)(s:List Stmt)(f:SF):Prop:=xn X s (S3 K Ew f)
theorem PE.imp {X:Cx}{e:Expr}{t t':TE}(h:PE X e t)(i:∀σ H Q,t' σ H Q->t σ H Q):PE X e t':=λpins s σ H Q I q=>h pins s σ H Q I (i σ H Q q)
theorem PT.imp {X:Cx}{e:Expr}{t t':TT}(h:PT X e t)(i:∀σ H Q,t' σ H Q->t σ H Q):PT X e t':=λpins s σ H Q I q=>h pins s σ H Q I (i σ H Q q)
theorem PW.imp {X:Cx}{e:Expr}{t t':TT}(h:PW X e t)(i:∀σ H Q,t' σ H Q->t σ H Q):PW X e t':=λw pins s σ H Q I q=>h w pins s σ H Q I (i σ H Q q)
theorem PS.imp {X:Cx}{e:Stmt}{t t':TS}(h:PS X e t)(i:∀D σ H,t' D σ H->t D σ H):PS X e t':=λpins s σ H D I q=>h pins s σ H D I (i D σ H q)
theorem xn.imp {X:Cx}{e:List Stmt}{t t':TS}(h:xn X e t)(i:∀D σ H,t' D σ H->t D σ H):xn X e t':=λpins s σ H D I q=>h pins s σ H D I (i D σ H q)
section
variable {K:Frag}{B B' H H' mJ:Hp}{φ:Nat->List Addr}{Γ:bD}{σ:St}{k:Kd}{d:PyData}{v:V}{Ew:Str->Hp->Prop}
theorem Rep.same (r:Rep K B φ Γ σ H)(s:Same H H'):Rep K B φ Γ σ H' where
 bs:=r.bs.trans s
 len:=r.len
 sl:=λi o d e=>by
  obtain⟨v,h1,h2⟩:=r.sl i o d e
  refine⟨v,h1,?_⟩
  cases o with
  | true=>rw[J5 rfl] at h2⊢;exact IsT.same s _ _ _ h2
  | false=>rw[J6 K3] at h2⊢;exact h2
 nd:=r.nd
 nb:=λi a ha=>⟨(r.nb i a ha).1,let ⟨o,h1,h2⟩:=(r.nb i a ha).2;⟨o,s _ _ h1,h2⟩⟩
 dj:=r.dj
theorem VR.toD (r:Same B H')(h:VR K B φ H H' k d v):aJ K H' d v:=by
 cases k with
 | fr l=>obtain⟨as,h1,_⟩:=h;exact IsT.toD _ _ _ h1
 | base=>exact aJ.same r _ _ h
 | any=>exact h
theorem VR.same (h:VR K B φ H H' k d v)(s:Same H' mJ):VR K B φ H mJ k d v:=by
 cases k with
 | fr l=>obtain⟨as,h1,h2,h3⟩:=h;exact⟨as,IsT.same s _ _ _ h1,h2,h3⟩
 | base=>exact h
 | any=>exact aJ.same s _ _ h
theorem VR.from (h:VR K B φ H H' k d v)(s:Same mJ H):VR K B φ mJ H' k d v:=by
 cases k with
 | fr l=>obtain⟨as,h1,h2,h3⟩:=h;exact⟨as,h1,h2,λa ha=>(h3 a ha).imp id λz=>s.free z⟩
 | base=>exact h
 | any=>exact h
theorem VR.oC (hn:bL d=true)(h:aJ K H' d v)(l:List Nat):VR K B φ H H' (.fr l) d v:=⟨[],aJ.toT _ _ hn h,X3,λa ha=>by cases ha⟩
theorem VR.eR (r:Same B H')(h:VR K B φ H H' k d v):VR K B φ H H' (eR k d) d v:=by
 unfold Y.eR
 by_cases hn:bL d=true
 ·rw[J5 hn];exact VR.oC hn (h.toD r) []
 ·rw[J6 hn];exact h
theorem VR.fresh:VR K B φ H H' (.fr []) d v↔aX K H H' d v:=by
 constructor
 ·rintro⟨as,h1,h2,h3⟩
  exact⟨as,h1,h2,λa ha=>by rcases h3 a ha with⟨i,hi,_⟩ | z;cases hi;exact z⟩
 ·rintro⟨as,h1,h2,h3⟩
  exact⟨as,h1,h2,λa ha=> .inr (h3 a ha)⟩
theorem aX.oC (hn:bL d=true)(h:aJ K H' d v):aX K H H' d v:=⟨[],aJ.toT _ _ hn h,X3,λa ha=>by cases ha⟩
theorem aX.from (h:aX K H H' d v)(s:Same mJ H):aX K mJ H' d v:=by
 obtain⟨as,h1,h2,h3⟩:=h
 exact⟨as,h1,h2,λa ha=>s.free (h3 a ha)⟩
theorem aX.lst {ds:List PyData}{a:Addr}{vs:List V}(hn:aq ds=true)(h:H' a=some (.lst vs))(t:aA K H' ds vs)(n:H a=none):aX K H H' (.list ds) (.ref a) :=
 ⟨[a],ic h (aA.toT _ _ hn t),KJ.mpr ⟨by simp,X3⟩,λb hb=>by rw[K7.mp hb];exact n⟩
theorem aX.tup {ds:List PyData}{a:Addr}{vs:List V}(hn:aq ds=true)(h:gz K H' a vs)(t:aA K H' ds vs):aX K H H' (.tuple ds) (.ref a) :=
 ⟨[],Hi h (aA.toT _ _ hn t),X3,λb hb=>by cases hb⟩
theorem Runs.mono {m:M (Kd×PyData)}{Q Q':VK}(h:Runs K Ew B φ H m Q)(i:∀v H',Same H H'->Q v H'->Q' v H'):Runs K Ew B φ H m Q':=by
 rcases h with⟨k,d,e,h⟩ | h
 ·exact .inl ⟨k,d,e,λv H' s r=>i v H' s (h v H' s r)⟩
 ·exact .inr h
theorem Runs.bind {m:M (Kd×PyData)}{g:Kd×PyData->M (Kd×PyData)}{Q:VK}(r:Rep K B φ Γ σ H)(h:Runs K Ew B φ H (ar m g) Q) :
  Runs K Ew B φ H m (λv H1=>∃k d,m=some (.ok (k,d))/\VR K B φ H H1 k d v/\Rep K B φ Γ σ H1/\Same H H1/\Runs K Ew B φ H (g (k,d)) Q):=by
 match m,h with
 | some (.ok (k,d)),h=>exact .inl ⟨k,d,rfl,λv H1 s hv=>⟨k,d,rfl,hv,r.same s,s,h⟩⟩
 | some (.ex c),h=>
  refine .inr ⟨c,rfl,?_⟩
  rcases h with⟨k,d,e,_⟩ | ⟨c',e,h⟩
  ·cases e
  ·cases e;exact h
 | none,h=>
  exfalso
  rcases h with⟨k,d,e,_⟩ | ⟨c',e,h⟩
  ·cases e
  ·cases e
theorem Runs.later {m:M (Kd×PyData)}{Q:VK}{H1:Hp}(h:Runs K Ew B φ H m Q)(s:Same H H1):Runs K Ew B φ H1 m Q:=by
 rcases h with⟨k,d,e,h⟩ | h
 ·exact .inl ⟨k,d,e,λv H' s' hv=>h v H' (s.trans s') (hv.from s)⟩
 ·exact .inr h
theorem sJ.later {m:M Bool}{Q:Bool->Hp->Prop}{H1:Hp}(h:sJ Ew B H m Q)(s:Same H H1):sJ Ew B H1 m Q:=by
 rcases h with⟨b,e,h⟩ | h
 ·exact .inl ⟨b,e,λH' s'=>h H' (s.trans s')⟩
 ·exact .inr h
theorem sJ.bind {m:M Bool}{g:Bool->M Bool}{Q:Bool->Hp->Prop}(h:sJ Ew B H (ar m g) Q) :
  sJ Ew B H m (λb H1=>m=some (.ok b)/\Same H H1/\sJ Ew B H1 (g b) Q):=by
 match m,h with
 | some (.ok b),h=>exact .inl ⟨b,rfl,λH1 s=>⟨rfl,s,h.later s⟩⟩
 | some (.ex c),h=>
  refine .inr ⟨c,rfl,?_⟩
  rcases h with⟨k,e,_⟩ | ⟨c',e,h⟩
  ·cases e
  ·cases e;exact h
 | none,h=>
  exfalso
  rcases h with⟨k,e,_⟩ | ⟨c',e,h⟩
  ·cases e
  ·cases e
end
def jK (X:Cx)(f:Value->Value->Sem Value)(g:PyData->PyData->Option PyData):Prop :=
 ∃r,qW X f r/\∀x y z u v H Q,g x y=some z->aJ X.K H x u->aJ X.K H y v->(∀w H',Same H H'->aX X.K H H' z w->Q w H')->r u v H Q
def V7 (X:Cx)(f:Value->Sem Value)(g:PyData->Option PyData):Prop :=
 ∃r,TV X f r/\∀x z u H Q,g x=some z->aJ X.K H x u->(∀w H',Same H H'->aX X.K H H' z w->Q w H')->r u H Q
def CallD (X:Cx)(f:Value)(g:List PyData->Option PyData):Prop :=
 ∃r,kz X f r/\∀xs z us H Q,g xs=some z->aA X.K H xs us->(∀w H',Same H H'->aX X.K H H' z w->Q w H')->r us H Q
def Vd (X:Cx)(g:PyData->PyData->Option PyData):Prop :=
 ∃r,KO X r/\∀B φ H0 k x y z u v H Q,Same B H->g x y=some z->VR X.K B φ H0 H k x u->aJ X.K H y v->(∀w,VR X.K B φ H0 H (eR k z) z w->Q w H)->r u v H Q
section
variable {X:Cx}{K:Frag}{Ew:Str->Hp->Prop}{pos:Pos}
theorem NX {e:Expr}{c:V}{d:PyData}(h:PE X e (tC c))(hn:bL d=true)(hd:∀H,aJ K H d c):DE X K Ew e (eC d):=h.imp λσ H Q q=>by
 obtain⟨B,φ,Γ,r,q⟩:=q
 rcases q with⟨k,d',e,q⟩ | ⟨c',e,q⟩
 ·cases e
  exact q _ H (Same.refl H) (VR.oC hn (hd H) [])
 ·cases e
theorem am {i:Int}{j pos}:DE X K Ew (.Constant (.int i) j pos) (eC (.int i)):=NX P2 rfl λ_=>cx
theorem p8 {i:Bool}{j pos}:DE X K Ew (.Constant (.bool i) j pos) (eC (.bool i)):=NX Sm rfl λ_=>dD
theorem ie {j pos}:DE X K Ew (.Constant .none j pos) (eC .none):=NX P4 rfl λ_=>Hg
theorem af (i:Nat){x:Str}(hN:X.N[i]? =some x:=by rfl)(hv:TN X.env.scope x:=by first | exact Or.inl rfl | exact Or.inr (Or.inl rfl) | exact Or.inr (Or.inr rfl))(hd:(x==("__debug__":Str))=false:=by decide)
  (hcd:(x==("__classdict__":Str))=false:=by decide):DE X K Ew (.Name x pos) (eV i):=(Ko hN hv hd hcd).imp λσ H Q q=>by
 obtain⟨B,φ,Γ,r,q⟩:=q
 unfold eV at q
 match hg:Γ[i]?,q with
 | some (some (o,d)),q=>
  obtain⟨v,h1,h2⟩:=r.sl i o d hg
  refine⟨v,h1,?_⟩
  rcases q with⟨k,d',e,q⟩ | ⟨c',e,q⟩
  ·cases e
   refine q v H (Same.refl H) (VR.eR r.bs ?_)
   cases o with
   | true=>
    rw[J5 rfl] at h2
    exact⟨_,h2,r.nd i,λa ha=> .inl ⟨i,by simp,ha⟩⟩
   | false=>
    rw[J6 K3] at h2
    exact h2
  ·cases e
 | some none,q=>rcases q with⟨k,d',e,q⟩ | ⟨c',e,q⟩ <;> cases e
 | none,q=>rcases q with⟨k,d',e,q⟩ | ⟨c',e,q⟩ <;> cases e
theorem uQ {fa fb:EF}{g:Kd×PyData->Kd×PyData->M (Kd×PyData)}{σ:St}{H:Hp}{Q:VK}{V8:V->V->Hp->Prop}(h:tD K Ew (λΓ=>ar (fa Γ) λx=>ar (fb Γ) λy=>g x y) σ H Q)
  (i:∀B φ Γ k x k' y u v H1 H2,Rep K B φ Γ σ H2->Same H H1->Same H1 H2->VR K B φ H H2 k x u->VR K B φ H1 H2 k' y v->Runs K Ew B φ H (g (k,x) (k',y)) Q->V8 u v H2) :
  tD K Ew fa σ H λu H1=>tD K Ew fb σ H1 λv H2=>V8 u v H2:=by
 obtain⟨B,φ,Γ,r,q⟩:=h
 refine⟨B,φ,Γ,r,(q.bind r).mono λu H1 s1 ⟨k,x,e1,v1,r1,_,q1⟩=> ?_⟩
 refine⟨B,φ,Γ,r1,((q1.later s1).bind r1).mono λv H2 s2 ⟨k',y,e2,v2,r2,_,q2⟩=> ?_⟩
 refine i B φ Γ k x k' y u v H1 H2 r2 s1 s2 (v1.same s2) v2 ?_
 rcases q1 with⟨k0,d0,e0,q0⟩ | ⟨c0,e0,q0⟩
 ·rw[e2] at e0
  exact .inl ⟨k0,d0,e0,q0⟩
 ·rw[e2] at e0
  exact .inr ⟨c0,e0,q0⟩
theorem gL {B:Hp}{φ:Nat->List Addr}{H:Hp}{o:Option PyData}{kf:PyData->Kd}{Q:VK}(h:Runs K Ew B φ H (ar (mo o) λz=>ah (kf z,z)) Q):∃z,o=some z/\∀v H',Same H H'->VR K B φ H H' (kf z) z v->Q v H':=by
 cases o with
 | none=>rcases h with⟨k,d',e,q⟩ | ⟨c',e,q⟩ <;> cases e
 | some z=>
  rcases h with⟨k,d',e,q⟩ | ⟨c',e,q⟩
  ·cases e;exact⟨z,rfl,q⟩
  ·cases e
theorem aK {a b:Expr}{op:Operator}{fa fb:EF}{g:PyData->PyData->Option PyData}(ho:jK X (binaryOp op) g)(ha:DE X K Ew a fa)(hb:DE X K Ew b fb)(hK:X.K=K:=by rfl):DE X K Ew (.BinOp a op b pos) (bz g fa fb):=by
 obtain⟨r,hr,hx⟩:=ho
 refine(Pp hr ha hb).imp λσ H Q q=>uQ q λB φ Γ k x k' y u v H1 H2 r2 s1 s2 v1 v2 q=> ?_
 obtain⟨z,e,q⟩:=gL q
 rw[hK] at hx
 exact hx x y z u v H2 Q e (v1.toD r2.bs) (v2.toD r2.bs) λw H' s f=>q w H' ((s1.trans s2).trans s) (VR.fresh.mpr (f.from (s1.trans s2)))
theorem zA {a b:Expr}{op:CmpOp}{fa fb:EF}{g:PyData->PyData->Option PyData}(ho:jK X (compareOp op) g)(ha:DE X K Ew a fa)(hb:DE X K Ew b fb)(hm:behindInMarks op b=false)(hK:X.K=K:=by rfl) :
  DE X K Ew (.Compare a [op] [b] pos) (bz g fa fb):=by
 obtain⟨r,hr,hx⟩:=ho
 refine(NA hr ha hb hm).imp λσ H Q q=>uQ q λB φ Γ k x k' y u v H1 H2 r2 s1 s2 v1 v2 q=> ?_
 obtain⟨z,e,q⟩:=gL q
 rw[hK] at hx
 exact hx x y z u v H2 Q e (v1.toD r2.bs) (v2.toD r2.bs) λw H' s f=>q w H' ((s1.trans s2).trans s) (VR.fresh.mpr (f.from (s1.trans s2)))
theorem yz {a:Expr}{op:UnaryOp}{fa:EF}{g:PyData->Option PyData}(ho:V7 X (unaryOp op) g)(ha:DE X K Ew a fa)(hK:X.K=K:=by rfl):DE X K Ew (.UnaryOp op a pos) (sd g fa):=by
 obtain⟨r,hr,hx⟩:=ho
 refine(SA hr ha).imp λσ H Q q=> ?_
 obtain⟨B,φ,Γ,r0,q⟩:=q
 refine⟨B,φ,Γ,r0,(q.bind r0).mono λu H1 s1 ⟨k,x,e1,v1,r1,_,q1⟩=> ?_⟩
 obtain⟨z,e,q⟩:=gL q1
 rw[hK] at hx
 exact hx x z u H1 Q e (v1.toD r1.bs) λw H' s f=>q w H' (s1.trans s) (VR.fresh.mpr (f.from s1))
theorem aS {a b:Expr}{fa fb:EF}{g:PyData->PyData->Option PyData}(ho:Vd X g)(ha:DE X K Ew a fa)(hb:DE X K Ew b fb)(hs:G_ b)(hK:X.K=K:=by rfl):DE X K Ew (.Subscript a b pos) (dW g fa fb):=by
 obtain⟨r,hr,hx⟩:=ho
 refine(SR hr ha hb hs).imp λσ H Q q=>uQ q λB φ Γ k x k' y u v H1 H2 r2 s1 s2 v1 v2 q=> ?_
 obtain⟨z,e,q⟩:=gL (kf:=λz=>eR k z) q
 rw[hK] at hx
 exact hx B φ H k x y z u v H2 Q r2.bs e v1 (v2.toD r2.bs) λw hw=>q w H2 (s1.trans s2) hw
end
mutual
theorem jL:∀(d:PyData) (n:Nat),lay n d=true->d.canLay0=true/\d.depth<=n
 | .none,n,_=>by simp[PyData.canLay0,PyData.depth]
 | .bool _,n,_=>by simp[PyData.canLay0,PyData.depth]
 | .int _,n,_=>by simp[PyData.canLay0,PyData.depth]
 | .str x,n,h=>by
  have h':PyData.strOk x=true:=by cases n <;> simpa [lay] using h
  simp[PyData.canLay0,PyData.depth,h']
 | .list xs,0,h=>by simp[lay] at h
 | .list xs,n+1,h=>by
  have:=j3 xs n (by simpa [lay] using h)
  simp only[PyData.canLay0,PyData.depth]
  exact⟨this.1,by omega⟩
 | .tuple xs,0,h=>by simp[lay] at h
 | .tuple xs,n+1,h=>by
  have:=j3 xs n (by simpa [lay] using h)
  simp only[PyData.canLay0,PyData.depth]
  exact⟨this.1,by omega⟩
 | .dict _,n,h=>by cases n <;> simp[lay] at h
theorem j3:∀(ds:List PyData) (n:Nat),lays n ds=true->PyData.canLayAll0 ds=true/\PyData.depthAll ds<=n
 | [],n,_=>by simp[PyData.canLayAll0,PyData.depthAll]
 | d :: ds,n,h=>by
  have h':lay n d=true/\lays n ds=true:=by simpa [lays] using h
  have h1:=jL d n h'.1
  have h2:=j3 ds n h'.2
  simp only[PyData.canLayAll0,PyData.depthAll,h1.1,h2.1,Xv,true_and]
  omega
end
section
variable {X:Cx}{pins:List (Addr×Obj)}{σ:St}{H:Hp}{s:Shared}
mutual
theorem aJ.reads (I:Inv X pins σ H s):∀(d:PyData) (v:V) (u:Value),d.canLay0=true->aJ X.K H d v->RelV v u->∃as,Reads s.heap u d as
 | .none,v,u,_,h,r=>by
  simp only[aJ] at h;subst h
  cases(show u=Value.none from r);exact⟨_,.none⟩
 | .bool b,v,u,_,h,r=>by
  simp only[aJ] at h;subst h
  cases(show u=Value.bool b from r);exact⟨_,.bool b⟩
 | .int i,v,u,_,h,r=>by
  simp only[aJ] at h;subst h
  obtain⟨t,rfl⟩:=(show∃t,u=Value.int i t from r);exact⟨_,.int i t⟩
 | .str x,v,u,_,h,r=>by
  simp only[aJ] at h;subst h
  obtain⟨t,rfl⟩:=(show∃t,u=Value.str x t from r);exact⟨_,.str x t⟩
 | .list xs,v,u,c,h,r=>by
  simp only[aJ] at h
  obtain⟨a,vs,rfl,h1,h2⟩:=h
  cases(show u=Value.ref a from r)
  obtain⟨its,rv,⟨o,n,e,hc,_,hd⟩,_⟩:=I.list h1
  obtain⟨as,ra⟩:=aA.reads I xs vs its (by simpa [PyData.canLay0] using c) h2 rv
  exact⟨_,.list e hc hd (by simpa using ra)⟩
 | .tuple xs,v,u,c,h,r=>by
  simp only[aJ] at h
  obtain⟨a,vs,rfl,h1,h2⟩:=h
  cases(show u=Value.ref a from r)
  obtain⟨its,rv,⟨o,e,hc,n,hd⟩,_⟩:=I.tuple h1
  obtain⟨as,ra⟩:=aA.reads I xs vs its (by simpa [PyData.canLay0] using c) h2 rv
  exact⟨_,.tuple e hc hd (by simpa using ra)⟩
 | .dict _,v,u,c,h,r=>by simp[PyData.canLay0] at c
theorem aA.reads (I:Inv X pins σ H s):∀(ds:List PyData) (vs:List V) (us:List Value),PyData.canLayAll0 ds=true->aA X.K H ds vs->Vals vs us->∃as,ReadsAll s.heap us ds as
 | [],vs,us,_,h,r=>by
  simp only[aA] at h;subst h;cases r;exact⟨_,.nil⟩
 | d :: ds,vs,us,c,h,r=>by
  simp only[aA] at h
  obtain⟨v,w,rfl,h1,h2⟩:=h
  have c':d.canLay0=true/\PyData.canLayAll0 ds=true:=by simpa [PyData.canLayAll0] using c
  cases r with
  | cons r1 r2=>
   obtain⟨as,ra⟩:=aJ.reads I d v _ c'.1 h1 r1
   obtain⟨bs,rb⟩:=aA.reads I ds w _ c'.2 h2 r2
   exact⟨_,.cons ra rb⟩
end
end
theorem hX.aZ {k:Nat}{A:Around}(r:hX k A):A.units+80 < cLine:=by have:=r.un;omega
section
variable {X:Cx}
theorem jK.of {f:Value->Value->Sem Value}{g:PyData->PyData->Option PyData}
  (h:∀(pins:List (Addr×Obj)) (s:Shared) (σ:St) (H:Hp) (x y z:PyData) (u v:V) (a b:Value) (Q:VK),Inv X pins σ H s->g x y=some z->aJ X.K H x u->aJ X.K H y v->RelV u a->RelV v b->
   (∀w H',Same H H'->aX X.K H H' z w->Q w H')->wpAny (model X.prog X.w) X.A (f a b) (EP X pins σ Q) X.xe s):jK X f g :=
 ⟨λu v H Q=>∃x y z,g x y=some z/\aJ X.K H x u/\aJ X.K H y v/\∀w H',Same H H'->aX X.K H H' z w->Q w H',
  λpins s σ H u v a b Q I ru rv ⟨x,y,z,e,hx,hy,q⟩=>h pins s σ H x y z u v a b Q I e hx hy ru rv q,
  λx y z u v H Q e hx hy q=>⟨x,y,z,e,hx,hy,q⟩⟩
theorem lX (hu:X.A.units+80 < cLine):jK X (compareOp .Eq) Ci:=jK.of λpins s σ H x y z u v a b Q I e hx hy ru rv q=>by
 unfold Ci at e
 split at e
 ·rename_i c
  have c':lay 60 x=true/\lay 60 y=true:=by simpa using c
  have l1:=jL _ _ c'.1
  have l2:=jL _ _ c'.2
  obtain⟨as,ra⟩:=aJ.reads I x u a l1.1 hx ru
  obtain⟨bs,rb⟩:=aJ.reads I y v b l2.1 hy rv
  cases e
  exact SeqAt.compareEq_reads ra rb l1.1 l2.1 (by omega) ⟨.bl _,H,I,rfl,q _ H (Same.refl H) (aX.oC rfl dD)⟩
 ·cases e
theorem pA (hu:X.A.units+80 < cLine):jK X (compareOp .NotEq) Cj:=jK.of λpins s σ H x y z u v a b Q I e hx hy ru rv q=>by
 unfold Cj at e
 split at e
 ·rename_i c
  have c':lay 60 x=true/\lay 60 y=true:=by simpa using c
  have l1:=jL _ _ c'.1
  have l2:=jL _ _ c'.2
  obtain⟨as,ra⟩:=aJ.reads I x u a l1.1 hx ru
  obtain⟨bs,rb⟩:=aJ.reads I y v b l2.1 hy rv
  cases e
  exact SeqAt.compareNe_reads ra rb l1.1 l2.1 (by omega) ⟨.bl _,H,I,rfl,q _ H (Same.refl H) (aX.oC rfl dD)⟩
 ·cases e
theorem uR (hu:X.A.units+80 < cLine):jK X (compareOp .In) Lc:=jK.of λpins s σ H x y z u v a b Q I e hx hy ru rv q=>by
 cases y <;> simp only[Lc] at e <;> try (cases e;done)
 ·rename_i ys
  split at e
  ·rename_i c
   have c':lay 60 x=true/\lays 60 ys=true:=by simpa using c
   have l1:=jL _ _ c'.1
   have l2:=j3 _ _ c'.2
   obtain⟨as,ra⟩:=aJ.reads I x u a l1.1 hx ru
   obtain⟨bs,rb⟩:=aJ.reads I (.list ys) v b (by simpa [PyData.canLay0] using l2.1) hy rv
   cases e
   exact SeqAt.in_list_reads rb ra l2.1 l1.1 (by omega) ⟨.bl _,H,I,rfl,q _ H (Same.refl H) (aX.oC rfl dD)⟩
  ·cases e
 ·rename_i ys
  split at e
  ·rename_i c
   have c':lay 60 x=true/\lays 60 ys=true:=by simpa using c
   have l1:=jL _ _ c'.1
   have l2:=j3 _ _ c'.2
   obtain⟨as,ra⟩:=aJ.reads I x u a l1.1 hx ru
   obtain⟨bs,rb⟩:=aJ.reads I (.tuple ys) v b (by simpa [PyData.canLay0] using l2.1) hy rv
   cases e
   exact SeqAt.in_tuple_reads rb ra l2.1 l1.1 (by omega) ⟨.bl _,H,I,rfl,q _ H (Same.refl H) (aX.oC rfl dD)⟩
  ·cases e
theorem lx (hu:X.A.units+80 < cLine):jK X (compareOp .NotIn) h9:=jK.of λpins s σ H x y z u v a b Q I e hx hy ru rv q=>by
 cases y <;> simp only[h9] at e <;> try (cases e;done)
 ·rename_i ys
  split at e
  ·rename_i c
   have c':lay 60 x=true/\lays 60 ys=true:=by simpa using c
   have l1:=jL _ _ c'.1
   have l2:=j3 _ _ c'.2
   obtain⟨as,ra⟩:=aJ.reads I x u a l1.1 hx ru
   obtain⟨bs,rb⟩:=aJ.reads I (.list ys) v b (by simpa [PyData.canLay0] using l2.1) hy rv
   cases e
   exact SeqAt.notIn_list_reads rb ra l2.1 l1.1 (by omega) ⟨.bl _,H,I,rfl,q _ H (Same.refl H) (aX.oC rfl dD)⟩
  ·cases e
 ·rename_i ys
  split at e
  ·rename_i c
   have c':lay 60 x=true/\lays 60 ys=true:=by simpa using c
   have l1:=jL _ _ c'.1
   have l2:=j3 _ _ c'.2
   obtain⟨as,ra⟩:=aJ.reads I x u a l1.1 hx ru
   obtain⟨bs,rb⟩:=aJ.reads I (.tuple ys) v b (by simpa [PyData.canLay0] using l2.1) hy rv
   cases e
   exact SeqAt.notIn_tuple_reads rb ra l2.1 l1.1 (by omega) ⟨.bl _,H,I,rfl,q _ H (Same.refl H) (aX.oC rfl dD)⟩
  ·cases e
theorem Cu {K:Frag}{H:Hp}{x:PyData}{u:V}(h:aJ K H x u):decide (u= .non)=h_ x:=by
 cases x <;> simp only[aJ] at h
 ·subst h;rfl
 ·subst h;rfl
 ·subst h;rfl
 ·subst h;rfl
 ·obtain⟨a,_,rfl,_⟩:=h;rfl
 ·obtain⟨a,_,rfl,_⟩:=h;rfl
 ·obtain⟨a,_,rfl,_⟩:=h;rfl
theorem QL:jK X (compareOp .Is) S1:=jK.of λpins s σ H x y z u v a b Q I e hx hy ru rv q=>by
 cases y <;> simp only[S1] at e <;> try (cases e;done)
 cases e
 have hv:=lT hy
 subst hv
 exact Qq pins s σ H u .non a b Q I ru rv ⟨rfl,by rw[Cu hx];exact q _ H (Same.refl H) (aX.oC rfl dD)⟩
theorem q_:jK X (compareOp .IsNot) pj:=jK.of λpins s σ H x y z u v a b Q I e hx hy ru rv q=>by
 cases y <;> simp only[pj] at e <;> try (cases e;done)
 cases e
 have hv:=lT hy
 subst hv
 exact Nz pins s σ H u .non a b Q I ru rv ⟨rfl,by rw[Cu hx];exact q _ H (Same.refl H) (aX.oC rfl dD)⟩
theorem jK.ints {f:Value->Value->Sem Value}{C:Int->Int->Prop}{gv:Int->Int->V}{g:PyData->PyData->Option PyData}(h:qW X f (rI C gv))
  (hg:∀x y z,g x y=some z->∃i j,x= .int i/\y= .int j/\C i j/\bL z=true/\∀K H,aJ K H z (gv i j)):jK X f g:=jK.of λpins s σ H x y z u v a b Q I e hx hy ru rv q=>by
 obtain⟨i,j,rfl,rfl,c,hn,hz⟩:=hg x y z e
 have h1:=aF hx
 have h2:=aF hy
 subst h1 h2
 exact h pins s σ H _ _ a b Q I ru rv ⟨i,j,rfl,rfl,c,q _ H (Same.refl H) (aX.oC hn (hz _ _))⟩
theorem jK.Cv {f:Value->Value->Sem Value}{gv:Int->Int->V}{g:PyData->PyData->Option PyData}(h:qW X f (Nx gv))
  (hg:∀x y z,g x y=some z->∃i j,x= .int i/\y= .int j/\bL z=true/\∀K H,aJ K H z (gv i j)):jK X f g:=jK.of λpins s σ H x y z u v a b Q I e hx hy ru rv q=>by
 obtain⟨i,j,rfl,rfl,hn,hz⟩:=hg x y z e
 have h1:=aF hx
 have h2:=aF hy
 subst h1 h2
 exact h pins s σ H _ _ a b Q I ru rv ⟨i,j,rfl,rfl,q _ H (Same.refl H) (aX.oC hn (hz _ _))⟩
theorem p9:jK X (binaryOp .Sub) Y.xo:=jK.Cv Ql λx y z e=>by
 cases x <;> cases y <;> simp only[Y.xo] at e <;> cases e
 exact⟨_,_,rfl,rfl,rfl,λ_ _=>cx⟩
theorem zB:jK X (compareOp .Lt) Nn:=jK.Cv SE λx y z e=>by
 cases x <;> cases y <;> simp only[Nn] at e <;> cases e
 exact⟨_,_,rfl,rfl,rfl,λ_ _=>dD⟩
theorem Lh:jK X (compareOp .LtE) QH:=jK.Cv SG λx y z e=>by
 cases x <;> cases y <;> simp only[QH] at e <;> cases e
 exact⟨_,_,rfl,rfl,rfl,λ_ _=>dD⟩
theorem FA:jK X (compareOp .Gt) R_:=jK.Cv SH λx y z e=>by
 cases x <;> cases y <;> simp only[R_] at e <;> cases e
 exact⟨_,_,rfl,rfl,rfl,λ_ _=>dD⟩
theorem b_:jK X (binaryOp .Mod) iO:=jK.ints Qn λx y z e=>by
 cases x <;> cases y <;> simp only[iO] at e <;> try (cases e;done)
 split at e
 ·rename_i c;cases e;exact⟨_,_,rfl,rfl,c,rfl,λ_ _=>cx⟩
 ·cases e
theorem ut:jK X (binaryOp .Pow) Fq:=jK.ints Qo λx y z e=>by
 cases x <;> cases y <;> simp only[Fq] at e <;> try (cases e;done)
 split at e
 ·rename_i c;cases e;exact⟨_,_,rfl,rfl,c,rfl,λ_ _=>cx⟩
 ·cases e
theorem oD:V7 X (unaryOp .USub) m8:=⟨_,Qp,λx z u H Q e hx q=>by
 cases x <;> simp only[m8] at e <;> cases e
 have:=aF hx
 subst this
 exact⟨_,rfl,q _ H (Same.refl H) (aX.oC rfl cx)⟩⟩
theorem dH:jK X (binaryOp .FloorDiv) jl:=jK.of λpins s σ H x y z u v a b Q I e hx hy ru rv q=>by
 cases x <;> cases y <;> simp only[jl] at e <;> try (cases e;done)
 rename_i i j
 split at e
 ·rename_i c
  cases e
  have h1:=aF hx
  have h2:=aF hy
  subst h1 h2
  obtain⟨t,rfl⟩:=ru
  obtain⟨t',rfl⟩:=rv
  refine floordiv_int (by omega) ?_ (.inl (PyProof.noPylong_of_log2 ?_))
  ·rw[Int.fdiv_eq_ediv_of_nonneg i (by omega)]
   exact⟨.int (i / j),H,I.tok _,⟨_,rfl⟩,q _ H (Same.refl H) (aX.oC rfl cx)⟩
  ·have h3:j.natAbs.log2 < 64:=(Nat.log2_lt (by omega)).mpr (by omega)
   omega
 ·cases e
theorem dF:jK X (binaryOp .Add) ia:=jK.of λpins s σ H x y z u v a b Q I e hx hy ru rv q=>by
 cases x <;> cases y <;> simp only[ia] at e <;> try (cases e;done)
 ·cases e
  have h1:=aF hx
  have h2:=aF hy
  subst h1 h2
  exact Qk pins s σ H _ _ a b Q I ru rv ⟨_,_,rfl,rfl,q _ H (Same.refl H) (aX.oC rfl cx)⟩
 ·rename_i x y
  split at e
  ·rename_i c
   cases e
   have h1:=j1 hx
   have h2:=j1 hy
   subst h1 h2
   obtain⟨t,rfl⟩:=ru
   obtain⟨t',rfl⟩:=rv
   exact add_str (λt' tk=>⟨.str (x++y),H,I.tok _,⟨_,rfl⟩,q _ H (Same.refl H) (aX.oC rfl Hh)⟩) c
  ·cases e
 ·rename_i xs ys
  split at e
  ·rename_i c
   have c':(aq xs=true/\aq ys=true)/\xs.length+ys.length<=sizeLine:=by simpa using c
   cases e
   obtain⟨p,vs,rfl,h1,h2⟩:=bg hx
   obtain⟨p',vs',rfl,h3,h4⟩:=bg hy
   cases ru;cases rv
   obtain⟨its,r1,⟨⟨c1,d1,XH,WT⟩,n1,ho1,hc1,_,hd1⟩,_⟩:=I.list h1
   obtain⟨its2,r2,⟨⟨c2,d2,V9,sl2⟩,n2,ho2,hc2,_,hd2⟩,_⟩:=I.list h3
   simp only at hc1 hd1 hc2 hd2
   subst hc1 hd1 hc2 hd2
   have hz:vs.length+vs'.length<=sizeLine:=by rw[ap h2,ap h4];exact c'.2
   have hz2:its.length+its2.length<=sizeLine:=by rw[←r1.length,←r2.length];exact hz
   refine concat_meets ⟨_,ho1,rfl⟩ ⟨_,ho2,rfl⟩ noFill_list_add seq_list_add PySem.F.slot_list_add PySem.F.entry_list_add (PySem.F.args_list_add_2 _ _) (list_addW p p' its.toArray its2.toArray n1 n2 d1 d2 WT sl2 (by simpa using hz2)) ⟨ho1,ho2,?_⟩
   have ea:its.toArray++its2.toArray=(its++its2).toArray:=by simp
   rw[ea]
   have hf:=I.fresh
   refine⟨.ref _,_,I.SZ (t':=s.toks) (r1.append r2) (by rw[Kx];exact hz),rfl,q _ _ (Same.upd hf) ?_⟩
   exact aX.lst (by rw[ji,c'.1.1,c'.1.2];rfl) aB (aA.same (Same.upd hf) _ _ (gY h2 h4)) hf
  ·cases e
 ·rename_i xs ys
  split at e
  ·rename_i c
   have c':(aq xs=true/\aq ys=true)/\xs.length+ys.length<=sizeLine:=by simpa using c
   cases e
   obtain⟨p,vs,rfl,h1,h2⟩:=aM hx
   obtain⟨p',vs',rfl,h3,h4⟩:=aM hy
   have l1:=ap h2
   have l2:=ap h4
   by_cases hn:vs=[]
   ·have hds:xs=[]:=List.eq_nil_of_length_eq_zero (by rw[←l1,hn];rfl)
    cases ru;cases rv
    obtain⟨its,r1,p1,_⟩:=I.tuple h1
    obtain⟨its2,r2,p2,_⟩:=I.tuple h3
    obtain⟨⟨cls,dd,data,sl⟩,ho,hc,n,hda⟩:=id p1
    obtain⟨⟨cls2,dd2,data2,sl2⟩,ho2,hc2,n2,hdb⟩:=id p2
    simp only at hc hda hc2 hdb
    subst hc hda hc2 hdb
    have hv:its=[]:=(r1.uo).mpr hn
    exact concat_meets ⟨_,ho,rfl⟩ ⟨_,ho2,rfl⟩ noFill_tuple_add seq_tuple_add PySem.F.slot_tuple_add PySem.F.entry_tuple_add (PySem.F.args_tuple_add_2 _ _)
     (tuple_addW0 p p' its.toArray its2.toArray n n2 dd dd2 sl sl2 (by simp[hv])) ⟨ho,ho2,⟨.ref p',H,I,rfl,q _ H (Same.refl H) (aX.oC (by rw[bL,hds];exact c'.1.2) (by rw[hds];exact hy))⟩⟩
   ·refine NH pins s σ H _ _ a b Q I ru rv ⟨p,p',vs,vs',rfl,rfl,h1,h3,hn,by omega,λe=> ?_,λe t ht=> ?_⟩
    ·have hes:ys=[]:=List.eq_nil_of_length_eq_zero (by rw[←l2,e];rfl)
     exact q _ H (Same.refl H) (aX.oC (by rw[bL,hes,Xx];exact c'.1.1) (by rw[hes,Xx];exact hx))
    ·exact q _ _ (Same.upd ht) (aX.tup (by rw[ji,c'.1.1,c'.1.2];rfl) (gz.of aB) (aA.same (Same.upd ht) _ _ (gY h2 h4)))
  ·cases e
end
section
variable {X:Cx}{K:Frag}{Ew:Str->Hp->Prop}{pos:Pos}{a b:Expr}{fa fb:EF}{ta tb:TF}
theorem zC {B:Hp}{φ:Nat->List Addr}{Γ:bD}{σ:St}{H:Hp}{Q:Bool->Hp->Prop}(r:Rep K B φ Γ σ H)(h:sJ Ew B H (tE fa Γ) Q) :
  Runs K Ew B φ H (fa Γ) (λv H1=>∃c,v= .bl c/\Q c H1):=by
 unfold tE at h
 match hm:fa Γ,h with
 | some (.ok (k,d)),h=>
  refine .inl ⟨k,d,rfl,λv H' s hv=> ?_⟩
  cases d <;> try (rcases h with⟨t,e,_⟩ | ⟨c,e,_⟩ <;> cases e;done)
  rename_i t
  rcases h with⟨t',e,h⟩ | ⟨c,e,h⟩
  ·cases e
   have:=jT (hv.toD (r.bs.trans s))
   exact⟨t,this,h H' s⟩
  ·cases e
 | some (.ex c),h=>
  rcases h with⟨t',e,h⟩ | ⟨c',e,h⟩
  ·cases e
  ·cases e;exact .inr ⟨c,rfl,h⟩
 | none,h=>rcases h with⟨t',e,h⟩ | ⟨c',e,h⟩ <;> cases e
theorem pB (ha:DE X K Ew a fa)(he:∀whole,isTrue a X.env whole=(do let v←whole;standAt a.pos;holding [v] (truthy v)):=by intro _;rfl):DT X K Ew a (tE fa) :=
 (P5 ha he).imp λσ H Q q=>by
  obtain⟨B,φ,Γ,r,q⟩:=q
  exact⟨B,φ,Γ,r,zC r q⟩
theorem bn {op:CmpOp}{g:PyData->PyData->Option PyData}(ho:jK X (compareOp op) g)(ha:DE X K Ew a fa)(hb:DE X K Ew b fb)(hm:behindInMarks op b=false)(hK:X.K=K:=by rfl) :
  DT X K Ew (.Compare a [op] [b] pos) (tE (bz g fa fb)):=by
 obtain⟨r,hr,hx⟩:=ho
 refine(NB hr ha hb hm).imp λσ H Q q=> ?_
 obtain⟨B,φ,Γ,r0,q⟩:=q
 refine uQ (g:=λx y=>ar (mo (g x.2 y.2)) λz=>ah (.fr [],z)) (Q:=λv H1=>∃c,v= .bl c/\Q c H1) ⟨B,φ,Γ,r0,zC r0 q⟩ λB φ Γ k x k' y u v H1 H2 r2 s1 s2 v1 v2 q=> ?_
 obtain⟨z,e,q⟩:=gL (kf:=λ_=> .fr []) q
 rw[hK] at hx
 exact hx x y z u v H2 _ e (v1.toD r2.bs) (v2.toD r2.bs) λw H' s f=>q w H' ((s1.trans s2).trans s) (VR.fresh.mpr (f.from (s1.trans s2)))
theorem Cw {c:Expr}{fc:EF}{op op':CmpOp}{g g':PyData->PyData->Option PyData}(ho:jK X (compareOp op) g)(ho':jK X (compareOp op') g')(ha:DE X K Ew a fa)(hb:DE X K Ew b fb)(hc:DE X K Ew c fc)
  (hm:lastMarks [op,op'] [b,c]=false:=by with_unfolding_all rfl) (hK:X.K=K:=by rfl):DT X K Ew (.Compare a [op,op'] [b,c] pos) (tE (q8 g g' fa fb fc)):=by
 obtain⟨r,hr,hx⟩:=ho
 obtain⟨r',hr',hx'⟩:=ho'
 rw[hK] at hx hx'
 refine(KH hr hr' ha hb hc hm).imp λσ H Q0 q=> ?_
 obtain⟨B,φ,Γ,r0,q⟩:=q
 have q:=zC r0 q
 generalize hQ:(λv H1=>∃c,v=V.bl c/\Q0 c H1)=Q at q
 have hQ':(λx H'=>∃k,x=V.bl k/\Q0 k H')=Q:=hQ
 unfold KG
 rw[hQ']
 refine⟨B,φ,Γ,r0,(q.bind r0).mono λu H1 s1 ⟨k,x,e1,v1,r1,_,q1⟩=> ?_⟩
 refine⟨B,φ,Γ,r1,((q1.later s1).bind r1).mono λv H2 s2 ⟨k',y,e2,v2,r2,_,q2⟩=> ?_⟩
 have s12:=s1.trans s2
 match hz:g x y,q2 with
 | none,q2=>rcases q2 with⟨k,d,e,_⟩ | ⟨c,e,_⟩ <;> cases e
 | some z,q2=>
  refine hx x y z u v H2 _ hz (v1.toD (r1.bs) |> aJ.same s2 _ _) (v2.toD r2.bs) λw H3 s3 f=> ?_
  have hw:aJ K H3 z w:=let ⟨as,h1,_⟩:=f;IsT.toD _ _ _ h1
  cases z <;> try (rcases q2 with⟨k,d,e,_⟩ | ⟨c,e,_⟩ <;> cases e;done)
  rename_i t
  have:=jT hw
  subst this
  refine⟨t,rfl,?_⟩
  cases t with
  | false=>
   rw[J6 K3]
   rcases q2 with⟨k,d,e,q2⟩ | ⟨c,e,q2⟩
   ·cases e;exact q2 _ H3 (s2.trans s3) (VR.oC rfl dD [])
   ·cases e
  | true=>
   rw[J5 rfl]
   refine⟨B,φ,Γ,r2.same s3,((Runs.later q2 (s2.trans s3)).bind (r2.same s3)).mono λw' H4 s4 ⟨k4,d4,e4,v4,r4,_,q4⟩=> ?_⟩
   obtain⟨z',e',q5⟩:=gL (kf:=λ_=> .fr []) q4
   exact hx' y d4 z' v w' H4 Q e' (aJ.same (s3.trans s4) _ _ (v2.toD r2.bs)) (v4.toD r4.bs) λw5 H5 s5 f5=>q5 w5 H5 (s4.trans s5) (VR.fresh.mpr (f5.from s4))
theorem uv (ha:DT X K Ew a ta):DW X K Ew (.BoolOp .And [a] pos) ta:=Nw ha
theorem FC (ha:DT X K Ew a ta):DW X K Ew (.BoolOp .Or [a] pos) ta:=P6 ha
theorem zD {rest:List Expr}(ha:DT X K Ew a ta)(hb:DW X K Ew (.BoolOp .And (b :: rest) pos) tb):DW X K Ew (.BoolOp .And (a :: b :: rest) pos) (uJ ta tb) :=
 (P7 ha hb).imp λσ H Q q=>by
  obtain⟨B,φ,Γ,r,q⟩:=q
  refine⟨B,φ,Γ,r,?_⟩
  have q':=sJ.bind q
  rcases q' with⟨t,e,q'⟩ | q'
  ·refine .inl ⟨t,e,λH1 s1=> ?_⟩
   obtain⟨_,_,q2⟩:=q' H1 s1
   cases t with
   | true=>rw[J5 rfl] at q2⊢;exact⟨B,φ,Γ,r.same s1,q2⟩
   | false=>
    rw[J6 K3] at q2⊢
    rcases q2 with⟨t',e',q2⟩ | ⟨c,e',_⟩
    ·cases e';exact q2 H1 (Same.refl H1)
    ·cases e'
  ·exact .inr q'
theorem Cy {rest:List Expr}(ha:DT X K Ew a ta)(hb:DW X K Ew (.BoolOp .Or (b :: rest) pos) tb):DW X K Ew (.BoolOp .Or (a :: b :: rest) pos) (sH ta tb) :=
 (Sn ha hb).imp λσ H Q q=>by
  obtain⟨B,φ,Γ,r,q⟩:=q
  refine⟨B,φ,Γ,r,?_⟩
  have q':=sJ.bind q
  rcases q' with⟨t,e,q'⟩ | q'
  ·refine .inl ⟨t,e,λH1 s1=> ?_⟩
   obtain⟨_,_,q2⟩:=q' H1 s1
   cases t with
   | false=>rw[J6 K3] at q2⊢;exact⟨B,φ,Γ,r.same s1,q2⟩
   | true=>
    rw[J5 rfl] at q2⊢
    rcases q2 with⟨t',e',q2⟩ | ⟨c,e',_⟩
    ·cases e';exact q2 H1 (Same.refl H1)
    ·cases e'
  ·exact .inr q'
theorem DW.dt (h:DW X K Ew a ta):DT X K Ew a ta:=PW.pt h
theorem m9 (ha:DT X K Ew a ta):DT X K Ew (.UnaryOp .Not a pos) (iJ ta):=(P8 ha).imp λσ H Q q=>by
 obtain⟨B,φ,Γ,r,q⟩:=q
 refine⟨B,φ,Γ,r,?_⟩
 have q':=sJ.bind q
 rcases q' with⟨t,e,q'⟩ | q'
 ·refine .inl ⟨t,e,λH1 s1=> ?_⟩
  obtain⟨_,_,q2⟩:=q' H1 s1
  rcases q2 with⟨t',e',q2⟩ | ⟨c,e',_⟩
  ·cases e';exact q2 H1 (Same.refl H1)
  ·cases e'
 ·exact .inr q'
theorem Pu {c:Expr}(hc:DT X K Ew c ta)(ha:DE X K Ew a fa)(hb:DE X K Ew b fb):DE X K Ew (.IfExp c a b pos) (S0 ta fa fb):=(Kp hc ha hb).imp λσ H Q q=>by
 obtain⟨B,φ,Γ,r,q⟩:=q
 refine⟨B,φ,Γ,r,?_⟩
 unfold S0 at q
 match hm:ta Γ,q with
 | some (.ok t),q=>
  refine .inl ⟨t,rfl,λH1 s1=> ?_⟩
  cases t with
  | true=>rw[J5 rfl];exact⟨B,φ,Γ,r.same s1,Runs.later q s1⟩
  | false=>rw[J6 K3];exact⟨B,φ,Γ,r.same s1,Runs.later q s1⟩
 | some (.ex c),q=>
  rcases q with⟨k,d,e,h⟩ | ⟨c',e,h⟩
  ·cases e
  ·cases e;exact .inr ⟨c,rfl,h⟩
 | none,q=>rcases q with⟨k,d,e,h⟩ | ⟨c',e,h⟩ <;> cases e
theorem FD {op}(ha:DE X K Ew a fa):DE X K Ew (.BoolOp op [a] pos) fa:=P9 ha
theorem Hj {B:Hp}{φ:Nat->List Addr}{Γ:bD}{σ:St}{H:Hp}{Q Q':VK}{g:PyData->M (Kd×PyData)}(r:Rep K B φ Γ σ H)(h:Runs K Ew B φ H (ar (fa Γ) λx=>g x.2) Q)
  (hg:∀d,(∀t,d≠ .bool t)->g d=none) (i:∀t H1,Same H H1->Rep K B φ Γ σ H1->Runs K Ew B φ H1 (g (.bool t)) Q->Q' (.bl t) H1):Runs K Ew B φ H (fa Γ) Q':=by
 refine(h.bind r).mono λv H1 s1 ⟨k,d,e,hv,r1,_,q⟩=> ?_
 cases d with
 | bool t=>
  have:=jT (hv.toD r1.bs)
  subst this
  exact i t H1 s1 r1 (q.later s1)
 | _=>
  exfalso
  rw[show g _=none from hg _ (by intro t z;cases z)] at q
  rcases q with⟨k,d,e,h⟩ | ⟨c',e,h⟩ <;> cases e
theorem FE {rest:List Expr}(ha:DE X K Ew a fa)(hb:DE X K Ew (.BoolOp .And (b :: rest) pos) fb):DE X K Ew (.BoolOp .And (a :: b :: rest) pos) (La fa fb):=(P_ ha hb).imp λσ H Q q=>by
 obtain⟨B,φ,Γ,r,q⟩:=q
 refine⟨B,φ,Γ,r,Hj (g:=λd=>match d with | .bool true=>fb Γ | .bool false=>ah (.fr [],.bool false) | _=>none) r q (λd hd=> ?_) λt H1 s1 r1 q1=>⟨t,rfl,?_⟩⟩
 ·cases d <;> first | rfl | exact absurd rfl (hd _)
 ·cases t with
  | true=>rw[J5 rfl];exact⟨B,φ,Γ,r1,q1⟩
  | false=>
   rw[J6 K3]
   rcases q1 with⟨k,d,e,h⟩ | ⟨c',e,h⟩
   ·cases e;exact h _ H1 (Same.refl H1) (VR.oC rfl dD [])
   ·cases e
theorem QM (ha:DE X K Ew a fa):DE X K Ew (.UnaryOp .Not a pos) (Lb fa):=(Qa ha).imp λσ H Q q=>by
 obtain⟨B,φ,Γ,r,q⟩:=q
 refine⟨B,φ,Γ,r,Hj (g:=λd=>match d with | .bool t=>ah (.fr [],.bool (!t)) | _=>none) r q (λd hd=> ?_) λt H1 s1 r1 q1=>⟨t,rfl,?_⟩⟩
 ·cases d <;> first | rfl | exact absurd rfl (hd _)
 ·rcases q1 with⟨k,d,e,h⟩ | ⟨c',e,h⟩
  ·cases e;exact h _ H1 (Same.refl H1) (VR.oC rfl dD [])
  ·cases e
end
open Classical in
noncomputable def jw (φ:Nat->List Addr)(H:Hp):Hp:=λa=>if∃j,a∈φ j then none else H a
theorem fF {φ:Nat->List Addr}{H:Hp}{a:Addr}(h:∀j,a∉φ j):jw φ H a=H a:=by
 unfold jw;rw[J6];rintro⟨j,z⟩;exact h j z
theorem Hk {φ:Nat->List Addr}{H:Hp}{a:Addr}{j:Nat}(h:a∈φ j):jw φ H a=none:=by
 unfold jw;rw[J5 ⟨j,h⟩]
theorem lz (φ:Nat->List Addr)(H:Hp):Same (jw φ H) H:=λa o e=>by
 unfold jw at e
 split at e
 ·cases e
 ·exact e
section
variable {K:Frag}{B B' H H':Hp}{φ:Nat->List Addr}{Γ:bD}{σ:St}{k:Kd}{d:PyData}{v:V}
theorem gz.toB {a:Addr}{xs:List V}(e:∀a o,H a=some o->¬ hZ o->B' a=some o)(h:gz K H a xs):gz K B' a xs:=by
 rcases h with(h | ⟨o,h⟩) | h
 ·exact .inl (.inl (e _ _ h (λz=>z)))
 ·exact .inl (.inr ⟨o,e _ _ h (λz=>z)⟩)
 ·exact .inr h
mutual
theorem IsT.toB (e:∀a o,H a=some o->¬ hZ o->B' a=some o):∀(d:PyData) (v:V) (as:List Addr),(∀a∈as,∀o,H a=some o->B' a=some o)->IsT K H d v as->aJ K B' d v
 | .none,v,as,_,h=>by simp only[IsT] at h;simp only[aJ];exact h.1
 | .bool b,v,as,_,h=>by simp only[IsT] at h;simp only[aJ];exact h.1
 | .int i,v,as,_,h=>by simp only[IsT] at h;simp only[aJ];exact h.1
 | .str x,v,as,_,h=>by simp only[IsT] at h;simp only[aJ];exact h.1
 | .list xs,v,as,m,h=>by
  simp only[IsT] at h;simp only[aJ]
  obtain⟨a,vs,bs,e1,h1,h2,rfl⟩:=h
  exact⟨a,vs,e1,iV.of (m a K8 _ h1),aE.toB e xs vs bs (λb hb=>m b (K9 _ hb)) h2⟩
 | .tuple xs,v,as,m,h=>by
  simp only[IsT] at h;simp only[aJ]
  obtain⟨a,vs,e1,h1,h2⟩:=h
  exact⟨a,vs,e1,h1.toB e,aE.toB e xs vs as m h2⟩
 | .dict kvs,v,as,m,h=>by
  simp only[IsT] at h;simp only[aJ]
  obtain⟨a,ks,bs,e1,h1,h2,rfl⟩:=h
  exact⟨a,ks,e1,.inl (m a K8 _ h1),aR.toB e kvs ks.1 bs (λb hb=>m b (K9 _ hb)) h2⟩
theorem aE.toB (e:∀a o,H a=some o->¬ hZ o->B' a=some o):∀(ds:List PyData) (vs:List V) (as:List Addr),(∀a∈as,∀o,H a=some o->B' a=some o)->aE K H ds vs as->aA K B' ds vs
 | [],vs,as,_,h=>by simp only[aE] at h;simp only[aA];exact h.1
 | d :: ds,vs,as,m,h=>by
  simp only[aE] at h;simp only[aA]
  obtain⟨v,r,a1,a2,e1,rfl,h1,h2⟩:=h
  exact⟨v,r,e1,IsT.toB e d v a1 (λb hb=>m b (KY _ hb)) h1,aE.toB e ds r a2 (λb hb=>m b (K1 _ hb)) h2⟩
theorem aR.toB (e:∀a o,H a=some o->¬ hZ o->B' a=some o):∀(ds:List (PyData×PyData)) (ks:List (PyData×V×V)) (as:List Addr),(∀a∈as,∀o,H a=some o->B' a=some o)->aR K H ds ks as->a_ K B' ds ks
 | [],ks,as,_,h=>by simp only[aR] at h;simp only[a_];exact h.1
 | (k,d) :: r,ks,as,m,h=>by
  simp only[aR] at h;simp only[a_]
  obtain⟨kv,v,q,a1,a2,e1,rfl,h1,h2,h3⟩:=h
  exact⟨kv,v,q,e1,IsT.toB e k kv [] (λb hb=>by cases hb) h1,IsT.toB e d v a1 (λb hb=>m b (KY _ hb)) h2,aR.toB e r q a2 (λb hb=>m b (K1 _ hb)) h3⟩
end
theorem Rep.mu (r:Rep K B φ Γ σ H):∀a o,H a=some o->¬ hZ o->jw φ H a=some o:=λa o e n=>by
 rw[fF]
 ·exact e
 ·intro j hj
  obtain⟨o',e',m⟩:=(r.nb j a hj).2
  rw[e] at e';cases e'
  exact n m
theorem Rep.zE (r:Rep K B φ Γ σ H):Same B (jw φ H):=λa o e=>by
 rw[fF]
 ·exact r.bs a o e
 ·intro j hj
  rw[(r.nb j a hj).1] at e
  cases e
theorem Rep.base (r:Rep K B φ Γ σ H)(s:Same B B')(s':Same B' H)(n:∀j,∀a∈φ j,B' a=none):Rep K B' φ Γ σ H where
 bs:=s'
 len:=r.len
 sl:=λi o d e=>by
  obtain⟨v,h1,h2⟩:=r.sl i o d e
  refine⟨v,h1,?_⟩
  cases o with
  | true=>exact h2
  | false=>rw[J6 K3] at h2⊢;exact aJ.same s _ _ h2
 nd:=r.nd
 nb:=λi a ha=>⟨n i a ha,(r.nb i a ha).2⟩
 dj:=r.dj
theorem Rep.cut (r:Rep K B φ Γ σ H):Rep K (jw φ H) φ Γ σ H:=r.base r.zE (lz _ _) λj a ha=>Hk ha
def Iw (φ:Nat->List Addr)(i:Nat):Nat->List Addr:=λj=>if j=i then [] else φ j
theorem ig {φ:Nat->List Addr}{i j:Nat}{a:Addr}(h:a∈Iw φ i j):j≠i/\a∈φ j:=by
 unfold Iw at h
 split at h
 ·cases h
 ·rename_i n;exact⟨n,h⟩
theorem Rep.less {ψ:Nat->List Addr}(r:Rep K B φ Γ σ H)(hψ:∀j,ψ j=φ j∨ψ j=[])(Γ':bD)(hl:Γ'.length=Γ.length)
  (hs:∀i o d,Γ'[i]? =some (some (o,d))->(Γ[i]? =some (some (o,d))/\(o=true->ψ i=φ i))∨(o=false/\ψ i=[]/\∃o',Γ[i]? =some (some (o',d)))) :
  Same B (jw ψ H)/\Rep K (jw ψ H) ψ Γ' σ H:=by
 have sub:∀j a,a∈ψ j->a∈φ j:=λj a ha=>by
  rcases hψ j with e | e
  ·rw[e] at ha;exact ha
  ·rw[e] at ha;cases ha
 have s1:Same B (jw ψ H):=λa o e=>by
  rw[fF]
  ·exact r.bs a o e
  ·intro j hj
   rw[(r.nb j a (sub j a hj)).1] at e
   cases e
 have mu:∀a o,H a=some o->¬ hZ o->jw ψ H a=some o:=λa o e n=>by
  rw[fF]
  ·exact e
  ·intro j hj
   obtain⟨o',e',m⟩:=(r.nb j a (sub j a hj)).2
   rw[e] at e';cases e'
   exact n m
 refine⟨s1,lz _ _,hl.trans r.len,λi o d e=> ?_,λj=> ?_,λj a ha=>⟨Hk ha,(r.nb j a (sub j a ha)).2⟩,λi j n a ha hb=>r.dj i j n a (sub i a ha) (sub j a hb)⟩
 ·rcases hs i o d e with⟨e1,e2⟩ | ⟨rfl,e2,o',e3⟩
  ·obtain⟨v,h1,h2⟩:=r.sl i o d e1
   refine⟨v,h1,?_⟩
   cases o with
   | true=>rw[J5 rfl] at h2⊢;rw[e2 rfl];exact h2
   | false=>rw[J6 K3] at h2⊢;exact aJ.same s1 _ _ h2
  ·obtain⟨v,h1,h2⟩:=r.sl i o' d e3
   refine⟨v,h1,?_⟩
   rw[J6 K3]
   cases o' with
   | false=>rw[J6 K3] at h2;exact aJ.same s1 _ _ h2
   | true=>
    rw[J5 rfl] at h2
    refine IsT.toB mu _ _ _ (λa ha o e=> ?_) h2
    rw[fF]
    ·exact e
    ·intro j hj
     by_cases hji:j=i
     ·subst hji;rw[e2] at hj;cases hj
     ·exact r.dj i j (Ne.symm hji) a ha (sub j a hj)
 ·rcases hψ j with e | e
  ·rw[e];exact r.nd j
  ·rw[e];exact X3
theorem Li (i:Nat)(Γ:bD):(Fs i Γ).length=Γ.length:=by
 unfold Fs
 split <;> simp
theorem Rep.Fs (r:Rep K B φ Γ σ H)(i:Nat):Same B (jw (Iw φ i) H)/\Rep K (jw (Iw φ i) H) (Iw φ i) (Fs i Γ) σ H:=by
 refine r.less (λj=> ?_) _ (Li i Γ) λj o d e=> ?_
 ·unfold Iw
  by_cases h:j=i
  ·exact .inr (J5 h)
  ·exact .inl (J6 h)
 ·unfold Y.Fs at e
  split at e
  ·rename_i o' d' hg
   by_cases h:j=i
   ·subst h
    have hj:j < Γ.length:=(X5.mp hg).1
    rw[XU hj] at e
    cases e
    exact .inr ⟨rfl,J5 rfl,o',hg⟩
   ·rw[XY (Ne.symm h)] at e
    exact .inl ⟨e,λ_=>J6 h⟩
  ·rename_i hg
   by_cases h:j=i
   ·subst h
    exact absurd e (hg o d)
   ·exact .inl ⟨e,λ_=>J6 h⟩
theorem Rep.Ft:∀(l:List Nat) {B:Hp} {φ:Nat->List Addr} {Γ:bD},Rep K B φ Γ σ H->∃ψ,Same B (jw ψ H)/\Rep K (jw ψ H) ψ (Ft l Γ) σ H/\(∀j a,a∈ψ j->a∈φ j)/\∀j∈l,ψ j=[]
 | [],B,φ,Γ,r=>⟨φ,r.zE,r.cut,λ_ _ h=>h,λj hj=>by cases hj⟩
 | i :: l,B,φ,Γ,r=>by
  obtain⟨s1,r1⟩:=r.Fs i
  obtain⟨ψ,s2,r2,h3,h4⟩:=Rep.Ft l r1
  refine⟨ψ,s1.trans s2,r2,λj a ha=>(ig (h3 j a ha)).2,λj hj=> ?_⟩
  rcases K2.mp hj with rfl | hj
  ·cases e:ψ j with
   | nil=>rfl
   | cons b t=>
    have:=ig (h3 j b (by rw[e];exact K8))
    exact absurd rfl this.1
  ·exact h4 j hj
theorem Rep.zv (r:Rep K B φ Γ σ H):Same B H/\Rep K H (λ_=> []) (zv Γ) σ H:=by
 have h:=r.less (ψ:=λ_=> []) (λj=> .inr rfl) (Y.zv Γ) (by simp[Y.zv]) λj o d e=>by
  unfold Y.zv at e
  rw[Kj] at e
  cases hg:Γ[j]? with
  | none=>rw[hg] at e;cases e
  | some s=>
   rw[hg] at e
   cases s with
   | none=>cases e
   | some p=>cases e;exact .inr ⟨rfl,rfl,p.1,rfl⟩
 have e:jw (λ_=> []) H=H:=by
  funext a
  exact fF λj hj=>by cases hj
 rw[e] at h
 exact h
def Av (K:Frag)(B:Hp)(φ:Nat->List Addr)(H:Hp):Kd->PyData->V->Prop
 | .fr l,d,v=>∃as,IsT K H d v as/\as.Nodup/\∀a∈as,(∃i∈l,a∈φ i)∨(B a=none/\∀j,a∉φ j)
 | .base,d,v=>aJ K B d v
 | .any,d,v=>aJ K H d v
theorem VR.av {H0:Hp}(r:Rep K B φ Γ σ H0)(h:VR K B φ H0 H k d v):Av K B φ H k d v:=by
 cases k with
 | fr l=>
  obtain⟨as,h1,h2,h3⟩:=h
  refine⟨as,h1,h2,λa ha=>(h3 a ha).imp id λz=>⟨r.bs.free z,λj hj=> ?_⟩⟩
  obtain⟨o,e,_⟩:=(r.nb j a hj).2
  rw[z] at e;cases e
 | base=>exact h
 | any=>exact h
theorem Rep.put {as:List Addr}(r:Rep K B φ Γ σ H)(i:Nat)(h:IsT K H d v as)(nd:as.Nodup)(hb:∀a∈as,B a=none/\∀j,j≠i->a∉φ j) :
  Rep K B (λj=>if j=i then as else φ j) (Γ.set i (some (true,d))) (σ.set i (some v)) H where
 bs:=r.bs
 len:=by rw[U7,U7];exact r.len
 sl:=λj o d' e=>by
  by_cases hj:j=i
  ·subst hj
   by_cases hlt:j < Γ.length
   ·rw[XU hlt] at e
    cases e
    refine⟨v,by rw[XU (by rw[←r.len];exact hlt)],?_⟩
    rw[J5 rfl,J5 rfl];exact h
   ·rw[Xz (by rw[U7];omega)] at e
    cases e
  ·rw[XY (Ne.symm hj)] at e
   obtain⟨w,h1,h2⟩:=r.sl j o d' e
   refine⟨w,by rw[XY (Ne.symm hj)];exact h1,?_⟩
   simp only[J6 hj]
   exact h2
 nd:=λj=>by
  by_cases hj:j=i
  ·simp only[J5 hj];exact nd
  ·simp only[J6 hj];exact r.nd j
 nb:=λj a ha=>by
  by_cases hj:j=i
  ·simp only[J5 hj] at ha;exact⟨(hb a ha).1,IsT.live _ _ _ h a ha⟩
  ·simp only[J6 hj] at ha;exact r.nb j a ha
 dj:=λj j' n a ha hb'=>by
  by_cases hj:j=i
  ·simp only[J5 hj] at ha
   by_cases hj':j'=i
   ·exact n (hj.trans hj'.symm)
   ·simp only[J6 hj'] at hb';exact(hb a ha).2 j' hj' hb'
  ·simp only[J6 hj] at ha
   by_cases hj':j'=i
   ·simp only[J5 hj'] at hb';exact(hb a hb').2 j hj ha
   ·simp only[J6 hj'] at hb';exact r.dj j j' n a ha hb'
theorem Rep.QN (r:Rep K B φ Γ σ H)(i:Nat)(h:aJ K B d v):Rep K B (Iw φ i) (Γ.set i (some (false,d))) (σ.set i (some v)) H where
 bs:=r.bs
 len:=by rw[U7,U7];exact r.len
 sl:=λj o d' e=>by
  by_cases hj:j=i
  ·subst hj
   by_cases hlt:j < Γ.length
   ·rw[XU hlt] at e
    cases e
    refine⟨v,by rw[XU (by rw[←r.len];exact hlt)],?_⟩
    rw[J6 K3];exact h
   ·rw[Xz (by rw[U7];omega)] at e
    cases e
  ·rw[XY (Ne.symm hj)] at e
   obtain⟨w,h1,h2⟩:=r.sl j o d' e
   refine⟨w,by rw[XY (Ne.symm hj)];exact h1,?_⟩
   unfold Iw
   simp only[J6 hj]
   exact h2
 nd:=λj=>by
  unfold Iw
  by_cases hj:j=i
  ·simp only[J5 hj];exact X3
  ·simp only[J6 hj];exact r.nd j
 nb:=λj a ha=>r.nb j a (ig ha).2
 dj:=λj j' n a ha hb'=>r.dj j j' n a (ig ha).2 (ig hb').2
theorem Rep.kill (r:Rep K B φ Γ σ H)(i:Nat):Rep K B (Iw φ i) (Γ.set i none) σ H where
 bs:=r.bs
 len:=by rw[U7];exact r.len
 sl:=λj o d' e=>by
  by_cases hj:j=i
  ·subst hj
   by_cases hlt:j < Γ.length
   ·rw[XU hlt] at e;cases e
   ·rw[Xz (by rw[U7];omega)] at e;cases e
  ·rw[XY (Ne.symm hj)] at e
   obtain⟨w,h1,h2⟩:=r.sl j o d' e
   refine⟨w,h1,?_⟩
   unfold Iw
   simp only[J6 hj]
   exact h2
 nd:=λj=>by
  unfold Iw
  by_cases hj:j=i
  ·simp only[J5 hj];exact X3
  ·simp only[J6 hj];exact r.nd j
 nb:=λj a ha=>r.nb j a (ig ha).2
 dj:=λj j' n a ha hb'=>r.dj j j' n a (ig ha).2 (ig hb').2
theorem lY (r:Rep K B φ Γ σ H)(i:Nat)(h:Av K B φ H k d v):∃B' φ',Same B B'/\Rep K B' φ' (kP Γ i k d) (σ.set i (some v)) H:=by
 match k,h with
 | .fr [],h=>
  obtain⟨as,h1,h2,h3⟩:=h
  exact⟨B,_,Same.refl B,r.put i h1 h2 λa ha=>by
   rcases h3 a ha with⟨_,z,_⟩ | z
   ·cases z
   ·exact⟨z.1,λj _=>z.2 j⟩⟩
 | .fr (j :: l),h=>
  obtain⟨as,h1,h2,h3⟩:=h
  obtain⟨ψ,s1,r1,sub,hl⟩:=r.Ft (j :: l)
  refine⟨_,_,s1,r1.QN i ?_⟩
  refine IsT.toB (λa o e n=> ?_) _ _ _ (λa ha o e=> ?_) h1
  ·rw[fF]
   ·exact e
   ·intro j' hj'
    obtain⟨o',e',m⟩:=(r.nb j' a (sub j' a hj')).2
    rw[e] at e';cases e'
    exact n m
  ·rw[fF]
   ·exact e
   ·intro j' hj'
    rcases h3 a ha with⟨i',hi',z⟩ | z
    ·by_cases hij:i'=j'
     ·subst hij;rw[hl _ hi'] at hj';cases hj'
     ·exact r.dj i' j' hij a z (sub j' a hj')
    ·exact z.2 j' (sub j' a hj')
 | .base,h=>exact⟨B,_,Same.refl B,r.QN i h⟩
 | .any,h=>
  obtain⟨s1,r1⟩:=r.zv
  exact⟨H,_,s1,r1.QN i h⟩
end
section
variable {X:Cx}{K:Frag}{Ew:Str->Hp->Prop}{pos:Pos}{st:Stmt}{rest:List Stmt}{e:Expr}{fe:EF}{f g:SF}{t:TF}
theorem RV.base {B B' H':Hp}{o:Bool}{d:PyData}{v:V}(s:Same B B')(h:RV K B' H' o d v):RV K B H' o d v:=by
 unfold RV at h⊢
 cases o with
 | true=>
  rw[J5 rfl] at h⊢
  obtain⟨as,h1,h2,h3⟩:=h
  exact⟨as,h1,h2,λa ha=>s.free (h3 a ha)⟩
 | false=>rw[J6 K3] at h⊢;exact h
theorem fB.base {B B':Hp}{m:M Out}{D:Ends}(s:Same B B')(h:fB K Ew B m D):fB K Ew B' m D:=by
 match m,h with
 | some (.ok (.nx Γ)),h=>exact λB2 φ σ H s2 r=>h B2 φ σ H (s.trans s2) r
 | some (.ok (.bk Γ)),h=>exact λB2 φ σ H s2 r=>h B2 φ σ H (s.trans s2) r
 | some (.ok (.ct Γ)),h=>exact λB2 φ σ H s2 r=>h B2 φ σ H (s.trans s2) r
 | some (.ok (.rt o d)),h=>exact λv H' s' rv=>h v H' (s.trans s') (rv.base s)
 | some (.ex c),h=>exact λH' s'=>h H' (s.trans s')
 | none,h=>exact h
theorem bx:Km X K Ew [] cA:=G2.imp λD σ H q=>by
 obtain⟨B,φ,Γ,r,q⟩:=q
 exact q B φ σ H (Same.refl B) r
theorem QO:DS X K Ew (.Continue pos) NS:=B_.imp λD σ H q=>by
 obtain⟨B,φ,Γ,r,q⟩:=q
 exact q B φ σ H (Same.refl B) r
theorem ae (h1:DS X K Ew st f)(h2:Km X K Ew rest g):Km X K Ew (st :: rest) (au f g):=(uD h1 h2).imp λD σ H q=>by
 obtain⟨B,φ,Γ,r,q⟩:=q
 refine⟨B,φ,Γ,r,?_⟩
 unfold au at q
 match hm:f Γ,q with
 | some (.ok (.nx Γ')),q=>exact λB' φ' σ' H' s' r'=>⟨B',φ',Γ',r',fB.base s' q⟩
 | some (.ok (.bk Γ')),q=>exact q
 | some (.ok (.ct Γ')),q=>exact q
 | some (.ok (.rt o d)),q=>exact q
 | some (.ex c),q=>exact q
 | none,q=>cases q
theorem ak (h1:DS X K Ew st f):Km X K Ew [st] f:=zk h1
theorem jq {g:Kd×PyData->bD->M Out}{σ:St}{H:Hp}{D:Ends}{R:VK}(h:S3 K Ew (λΓ=>ar (fe Γ) λx=>g x Γ) D σ H)
  (i:∀B φ Γ k d v H1,Rep K B φ Γ σ H1->Av K B φ H1 k d v->fB K Ew B (g (k,d) Γ) D->R v H1):tD K Ew fe σ H R:=by
 obtain⟨B,φ,Γ,r,q⟩:=h
 refine⟨B,φ,Γ,r,?_⟩
 have q:fB K Ew B (ar (fe Γ) λx=>g x Γ) D:=q
 match hm:fe Γ,q with
 | some (.ok (k,d)),q=>exact .inl ⟨k,d,rfl,λv H1 s hv=>i B φ Γ k d v H1 (r.same s) (hv.av r) q⟩
 | some (.ex c),q=>exact .inr ⟨c,rfl,q⟩
 | none,q=>cases q
theorem Av.toD {B:Hp}{φ:Nat->List Addr}{H:Hp}{k:Kd}{d:PyData}{v:V}(s:Same B H)(h:Av K B φ H k d v):aJ K H d v:=by
 cases k with
 | fr l=>obtain⟨as,h1,_⟩:=h;exact IsT.toD _ _ _ h1
 | base=>exact aJ.same s _ _ h
 | any=>exact h
theorem aY (he:DE X K Ew e fe):DS X K Ew (.Return (some e) pos) (ck fe):=(Ks he).imp λD σ H q=>
 jq (g:=λx _=>ah (.rt (lR x.1) x.2)) q λB φ Γ k d v H1 r a q=>by
  refine q v H1 r.bs ?_
  unfold RV
  cases k with
  | fr l=>
   simp only[lR,if_true]
   obtain⟨as,h1,h2,h3⟩:=a
   refine⟨as,h1,h2,λa ha=> ?_⟩
   rcases h3 a ha with⟨i,_,z⟩ | z
   ·exact(r.nb i a z).1
   ·exact z.1
  | base=>simp only[lR,U3,if_false];exact aJ.same r.bs _ _ a
  | any=>simp only[lR,U3,if_false];exact a
theorem aw {i:Nat}{x:Str}{pos':Pos}(hN:X.N.Nodup)(hi:X.N[i]? =some x)(hx:Loc X.env.scope x)(he:DE X K Ew e fe)(hs:swapsWith e (some (.Name x pos')) pos.line X.env=pure false:=by rfl)(hf:X.fn x=true∨X.env.scope.names.lookup x=some .local:=by first | exact .inl rfl | exact .inr rfl | assumption) :
  DS X K Ew (.Assign [.Name x pos'] e pos) (aC i fe):=(Ff (i:=i) hN hi hx he hs hf).imp λD σ H q=>
 jq (g:=λx Γ=>ah (.nx (kP Γ i x.1 x.2))) q λB φ Γ k d v H1 r a q=>by
  obtain⟨B',φ',s',r'⟩:=lY r i a
  exact q B' φ' _ H1 s' r'
theorem rc {i j:Nat}{x y:Str}{pos' pos2:Pos}(hN:X.N.Nodup)(hi:X.N[i]? =some x)(hx:Loc X.env.scope x)(hj:PE X (.Name y pos2) (pd j))(hs:swapsWith (.Name y pos2) (some (.Name x pos')) pos.line X.env=pure false:=by rfl)(hf:X.fn x=true∨X.env.scope.names.lookup x=some .local:=by first | exact .inl rfl | exact .inr rfl | assumption) :
  DS X K Ew (.Assign [.Name x pos'] (.Name y pos2) pos) (xw i j):=(Ff (i:=i) hN hi hx hj hs hf).imp λD σ H q=>by
 obtain⟨B,φ,Γ,r,q⟩:=q
 unfold xw at q
 match hm:Γ[j]?,q with
 | some (some (true,d)),q=>
  obtain⟨v,h1,h2⟩:=r.sl j true d hm
  rw[J5 rfl] at h2
  refine⟨v,h1,?_⟩
  by_cases hn:bL d=true
  ·simp only[hn,if_true] at q
   exact q B _ _ H (Same.refl B) (r.put i (aJ.toT _ _ hn (IsT.toD _ _ _ h2)) X3 λa ha=>by cases ha)
  ·simp only[hn,if_false] at q
   by_cases hij:i=j
   ·simp only[hij,if_true] at q;exact False.elim q
   ·simp only[hij,if_false] at q
    refine q B _ _ H (Same.refl B) ((r.kill j).put i h2 (r.nd j) λa ha=>⟨(r.nb j a ha).1,λj' _ hj'=> ?_⟩)
    obtain⟨n1,n2⟩:=ig hj'
    exact r.dj j' j n1 a n2 ha
 | some (some (false,d)),q=>
  obtain⟨v,h1,h2⟩:=r.sl j false d hm
  rw[J6 K3] at h2
  refine⟨v,h1,?_⟩
  obtain⟨B',φ',s',r'⟩:=lY (k:=eR .base d) r i (VR.av r (VR.eR r.bs (show VR K B φ H H .base d v from h2)))
  exact q B' φ' _ H s' r'
 | some none,q|none,q=>cases q
theorem dX {c:Expr}{a b:List Stmt}(hc:DT X K Ew c t)(ha:Km X K Ew a f)(hb:Km X K Ew b g):DS X K Ew (.If c a b pos) (jm t f g):=(Pm hc ha hb).imp λD σ H q=>by
 obtain⟨B,φ,Γ,r,q⟩:=q
 refine⟨B,φ,Γ,r,?_⟩
 unfold jm at q
 match hm:t Γ,q with
 | some (.ok true),q=>exact .inl ⟨true,rfl,λH1 s=>by show(if true=true then _ else _);rw[J5 rfl];exact⟨B,φ,Γ,r.same s,q⟩⟩
 | some (.ok false),q=>exact .inl ⟨false,rfl,λH1 s=>by show(if false=true then _ else _);rw[J6 K3];exact⟨B,φ,Γ,r.same s,q⟩⟩
 | some (.ex c),q=>exact .inr ⟨c,rfl,q⟩
 | none,q=>cases q
end
def V_ (K:Frag)(B:Hp)(φ:Nat->List Addr)(H:Hp):Kd->List PyData->List V->Prop
 | .fr l,ds,vs=>∃as,aE K H ds vs as/\as.Nodup/\∀a∈as,(∃i∈l,a∈φ i)∨(B a=none/\∀j,a∉φ j)
 | .base,ds,vs=>aA K B ds vs
 | .any,ds,vs=>aA K H ds vs
def tG (K:Frag)(g:GF):TG:=λv σ H Q=>∃B φ Γ k d Γ',Rep K B φ Γ σ H/\Av K B φ H k d v/\g k d Γ=some Γ'/\∀B' φ' σ',Same B B'->Rep K B' φ' Γ' σ' H->Q σ' H
def DG (X:Cx)(K:Frag)(e:Expr)(g:GF):Prop:=PG X e (tG K g)
theorem PG.imp {X:Cx}{e:Expr}{t t':TG}(h:PG X e t)(i:∀v σ H Q,t' v σ H Q->t v σ H Q):PG X e t':=λpins s σ H v u Q I r q=>h pins s σ H v u Q I r (i v σ H Q q)
def zF:List Nat->Pn
 | []=>Sv
 | i :: is=>Po (Ca i) (zF is)
def uS (σ:St):List Nat->List V->St
 | i :: is,v :: vs=>uS (σ.set i (some v)) is vs
 | _,_=>σ
section
variable {X:Cx}{K:Frag}{Ew:Str->Hp->Prop}{pos:Pos}
theorem cT {i:Nat}{x:Str}(hN:X.N.Nodup)(hi:X.N[i]? =some x)(hx:Loc X.env.scope x)(hf:X.fn x=true∨X.env.scope.names.lookup x=some .local:=by first | exact .inl rfl | exact .inr rfl | assumption):DG X K (.Name x pos) (cS i) :=
 (cv (i:=i) hN hi hx hf).imp λv σ H Q q=>by
  obtain⟨B,φ,Γ,k,d,Γ',r,a,e,q⟩:=q
  cases e
  obtain⟨B',φ',s',r'⟩:=lY r i a
  exact q B' φ' _ s' r'
theorem pC:∀(is:List Nat) (vs:List V) (σ:St) (H:Hp) (Q:St->Hp->Prop),vs.length=is.length->Q (uS σ is vs) H->zF is vs σ H Q
 | [],[],σ,H,Q,_,q=>⟨rfl,q⟩
 | i :: is,v :: vs,σ,H,Q,hl,q=>⟨v,vs,rfl,pC is vs _ H Q (by simpa using hl) q⟩
 | [],_ :: _,_,_,_,hl,_=>by simp at hl
 | _ :: _,[],_,_,_,hl,_=>by simp at hl
def Wc:Kd->Prop
 | .fr []=>True
 | .fr (_ :: _)=>False
 | _=>True
theorem lA {H:Hp}{k:Kd}(hk:Wc k):∀(is:List Nat) (ds:List PyData) (vs:List V) {B:Hp} {φ:Nat->List Addr} {Γ:bD} {σ:St},ds.length=is.length->Rep K B φ Γ σ H->V_ K B φ H k ds vs->
  ∃B' φ',Same B B'/\Rep K B' φ' (uL Γ is k ds) (uS σ is vs) H
 | [],[],vs,B,φ,Γ,σ,_,r,a=>⟨B,φ,Same.refl B,by unfold uS uL;exact r⟩
 | [],_ :: _,_,_,_,_,_,hl,_,_=>by simp at hl
 | _ :: _,[],_,_,_,_,_,hl,_,_=>by simp at hl
 | i :: is,d :: ds,vs,B,φ,Γ,σ,hl,r,a=>by
  have hl':ds.length=is.length:=by simpa using hl
  match k,hk,a with
  | .fr [],_,a=>
   obtain⟨as,h1,h2,h3⟩:=a
   simp only[aE] at h1
   obtain⟨v,vr,a1,a2,rfl,rfl,hv,tl⟩:=h1
   have h3':∀a∈a1++a2,B a=none/\∀j,a∉φ j:=λa ha=>by
    rcases h3 a ha with⟨_,z,_⟩ | z
    ·cases z
    ·exact z
   have hnd:=XX.mp h2
   by_cases hn:bL d=true
   ·have e1:a1=[]:=IsT.nil _ _ _ hn hv
    subst e1
    have r1:=r.put i hv X3 λa ha=>by cases ha
    obtain⟨B',φ',s',r'⟩:=lA (k:=.fr []) trivial is ds vr hl' r1 ⟨a2,tl,hnd.2.1,λa ha=> .inr ⟨(h3' a (K1 _ ha)).1,λj=>by
     by_cases hj:j=i
     ·simp only[J5 hj];intro z;cases z
     ·simp only[J6 hj];exact(h3' a (K1 _ ha)).2 j⟩⟩
    refine⟨B',φ',s',?_⟩
    simp only[uL,uS,eR,hn,if_true,kP]
    exact r'
   ·have r1:=r.put i hv hnd.1 λa ha=>⟨(h3' a (KY _ ha)).1,λj _=>(h3' a (KY _ ha)).2 j⟩
    obtain⟨B',φ',s',r'⟩:=lA (k:=.fr []) trivial is ds vr hl' r1 ⟨a2,tl,hnd.2.1,λa ha=> .inr ⟨(h3' a (K1 _ ha)).1,λj=>by
     by_cases hj:j=i
     ·simp only[J5 hj];intro z;exact hnd.2.2 a z a ha rfl
     ·simp only[J6 hj];exact(h3' a (K1 _ ha)).2 j⟩⟩
    refine⟨B',φ',s',?_⟩
    simp only[uL,uS,eR,hn,if_false,kP]
    exact r'
  | .base,_,a=>
   have a':aA K B (d :: ds) vs:=a
   simp only[aA] at a'
   obtain⟨v,vr,rfl,hv,tl⟩:=a'
   obtain⟨B1,φ1,s1,r1⟩:=lY (k:=eR .base d) r i (VR.av r (VR.eR r.bs (show VR K B φ H H .base d v from hv)))
   obtain⟨B',φ',s',r'⟩:=lA (k:=.base) trivial is ds vr hl' r1 (aA.same s1 _ _ tl)
   exact⟨B',φ',s1.trans s',r'⟩
  | .any,_,a=>
   have a':aA K H (d :: ds) vs:=a
   simp only[aA] at a'
   obtain⟨v,vr,rfl,hv,tl⟩:=a'
   obtain⟨B1,φ1,s1,r1⟩:=lY (k:=eR .any d) r i (VR.av r (VR.eR r.bs (show VR K B φ H H .any d v from hv)))
   obtain⟨B',φ',s',r'⟩:=lA (k:=.any) trivial is ds vr hl' r1 tl
   exact⟨B',φ',s1.trans s',r'⟩
theorem Av.tup {B:Hp}{φ:Nat->List Addr}{H:Hp}{k:Kd}{ds:List PyData}{v:V}(s:Same B H)(h:Av K B φ H k (.tuple ds) v):∃a vs,v= .ref a/\gz K H a vs/\V_ K B φ H (Hd k) ds vs/\vs.length=ds.length:=by
 match k,h with
 | .fr [],h=>
  obtain⟨as,h1,h2,h3⟩:=h
  obtain⟨a,vs,e,q,t⟩:=lV h1
  exact⟨a,vs,e,q,⟨as,t,h2,h3⟩,df t⟩
 | .fr (j :: l),h=>
  obtain⟨as,h1,h2,h3⟩:=h
  obtain⟨a,vs,e,q,t⟩:=lV h1
  exact⟨a,vs,e,q,aE.toD _ _ _ t,df t⟩
 | .base,h=>
  obtain⟨a,vs,e,q,t⟩:=aM (show aJ K B (.tuple ds) v from h)
  exact⟨a,vs,e,s.pz q,t,ap t⟩
 | .any,h=>
  obtain⟨a,vs,e,q,t⟩:=aM (show aJ K H (.tuple ds) v from h)
  exact⟨a,vs,e,q,t,ap t⟩
theorem Cz (k:Kd):Wc (Hd k):=by
 match k with
 | .fr []=>trivial
 | .fr (_ :: _)=>trivial
 | .base=>trivial
 | .any=>trivial
theorem uT {es:List Expr}{k:Nat}{is:List Nat}(hc:X.calm=true)(hg:R9 X es (zF is))(hn:(assignEach es X.env).length=is.length:=by rfl)(hst:(assignEach es X.env).findIdx? (·.1)=none:=by rfl)(hK:X.K=K:=by rfl) :
  DG X K (.Tuple es k pos) (mI is):=(KA (n:=is.length) hc hg hn hst).imp λv σ H Q q=>by
 obtain⟨B,φ,Γ,k,d,Γ',r,a,e,q⟩:=q
 cases d <;> simp only[mI] at e <;> try (cases e;done)
 rename_i ds
 split at e
 ·rename_i hl
  cases e
  obtain⟨a',vs,rfl,hq,av,hlen⟩:=a.tup r.bs
  refine⟨a',vs,rfl,by rw[hK];exact hq,by omega,pC _ _ _ _ _ (by omega) ?_⟩
  obtain⟨B',φ',s',r'⟩:=lA (Cz k) is ds vs hl r av
  exact q B' φ' _ s' r'
 ·cases e
theorem QP {tg e:Expr}{fe:EF}{g:GF}(he:DE X K Ew e fe)(hg:DG X K tg g)(hs:swapsWithSole [tg] e pos.line X.env=pure false:=by rfl)(hw:swappedStores [tg] e X.env=pure none:=by rfl)
  (h1:(assignEach [tg] X.env).map (·.2)=[assign tg X.env]:=by rfl):DS X K Ew (.Assign [tg] e pos) (Le g fe):=(zl he hg hs hw h1).imp λD σ H q=>
 jq (g:=λx Γ=>ar (mo (g x.1 x.2 Γ)) λΓ'=>ah (.nx Γ')) q λB φ Γ k d v H1 r a q=>by
  cases e:g k d Γ with
  | none=>simp only[e] at q;exact False.elim q
  | some Γ'=>
   simp only[e] at q
   exact⟨B,φ,Γ,k,d,Γ',r,a,e,λB' φ' σ' s' r'=>q B' φ' σ' H1 s' r'⟩
structure zG (K:Frag)(B:Hp)(J:It)(ds:List PyData):Prop where
 go:∀i H,i < ds.length->Same B H->J.go i H
 yl:∀i H x H',i < ds.length->Same B H->J.Sw i H x H'->Same H H'/\∃d,ds[i]? =some d/\∀B2,Same B B2->(∀a o,H a=none->H' a=some o->B2 a=some o)->aJ K B2 d x
 stop:∀H,Same B H->J.stop ds.length H
def CA (K:Frag)(Ew:Str->Hp->Prop)(B H:Hp)(Γ:bD)(σ:St)(R:It->Hp->Prop)(m:M (Kd×List PyData)):Prop:=match m with
 | some (.ok (k,ds))=>∀J H1 B1 ψ,Same H H1->Same B B1->Rep K B1 ψ (mS k Γ) σ H1->zG K B1 J ds->R J H1
 | some (.ex c)=>∀H',Same B H'->Ew c H'
 | none=>False
def tI (K:Frag)(Ew:Str->Hp->Prop)(it:IF):TI:=λσ H R=>∃B φ Γ,Rep K B φ Γ σ H/\CA K Ew B H Γ σ R (it Γ)
def DI (X:Cx)(K:Frag)(Ew:Str->Hp->Prop)(tg e:Expr)(it:IF):Prop:=PI X tg e (tI K Ew it)
theorem PI.imp {X:Cx}{tg e:Expr}{t t':TI}(h:PI X tg e t)(i:∀σ H R,t' σ H R->t σ H R):PI X tg e t':=λpins s σ H R I q=>h pins s σ H R I (i σ H R q)
theorem Rep.mS {B H:Hp}{φ:Nat->List Addr}{Γ:bD}{σ:St}{k:Kd}{d:PyData}{v:V}(r:Rep K B φ Γ σ H)(h:Av K B φ H k d v) :
  ∃B1 ψ,Same B B1/\Rep K B1 ψ (mS k Γ) σ H/\aJ K B1 d v:=by
 match k,h with
 | .fr [],h=>
  obtain⟨as,h1,h2,h3⟩:=h
  refine⟨jw φ H,φ,r.zE,r.cut,IsT.toB r.mu _ _ _ (λa ha o e=> ?_) h1⟩
  rw[fF]
  ·exact e
  ·rcases h3 a ha with⟨_,z,_⟩ | z
   ·cases z
   ·exact z.2
 | .fr (j :: l),h=>
  obtain⟨as,h1,h2,h3⟩:=h
  obtain⟨ψ,s1,r1,sub,hl⟩:=r.Ft (j :: l)
  refine⟨_,_,s1,r1,IsT.toB (λa o e n=> ?_) _ _ _ (λa ha o e=> ?_) h1⟩
  ·rw[fF]
   ·exact e
   ·intro j' hj'
    obtain⟨o',e',m⟩:=(r.nb j' a (sub j' a hj')).2
    rw[e] at e';cases e'
    exact n m
  ·rw[fF]
   ·exact e
   ·intro j' hj'
    rcases h3 a ha with⟨i',hi',z⟩ | z
    ·by_cases hij:i'=j'
     ·subst hij;rw[hl _ hi'] at hj';cases hj'
     ·exact r.dj i' j' hij a z (sub j' a hj')
    ·exact z.2 j' (sub j' a hj')
 | .base,h=>exact⟨B,φ,Same.refl B,r,h⟩
 | .any,h=>
  obtain⟨s1,r1⟩:=r.zv
  exact⟨H,_,s1,r1,h⟩
theorem yA {B:Hp}{a:Addr}{vs:List V}{ds:List PyData}(h:iV K B a vs)(t:aA K B ds vs):zG K B (UA K a) ds where
 go:=λi H hi s=>by
  have hl:=ap t
  exact⟨vs,vs[i]'(by omega),s.seq h,by simp⟩
 yl:=λi H x H' hi s y=>by
  obtain⟨rfl,y⟩:=y
  obtain⟨d,e,hd⟩:=jU t (y vs (s.seq h))
  exact⟨Same.refl _,d,e,λB2 s2 _=>aJ.same s2 _ _ hd⟩
 stop:=λH s=>⟨vs,s.seq h,by rw[ap t];exact Ku _⟩
theorem Lj {B:Hp}{a:Addr}{vs:List V}{ds:List PyData}(h:gz K B a vs)(t:aA K B ds vs):zG K B (UB K a) ds where
 go:=λi H hi s=>by
  have hl:=ap t
  exact⟨vs,vs[i]'(by omega),s.pz h,by simp⟩
 yl:=λi H x H' hi s y=>by
  obtain⟨rfl,y⟩:=y
  obtain⟨d,e,hd⟩:=jU t (y vs (s.pz h))
  exact⟨Same.refl _,d,e,λB2 s2 _=>aJ.same s2 _ _ hd⟩
 stop:=λH s=>⟨vs,s.pz h,by rw[ap t];exact Ku _⟩
theorem Ll {B:Hp}{m:Int}{n:Nat}:zG K B (TU m n) ((List.range n).map λi=> .int (m+(i:Nat))) where
 go:=λi H hi s=>by
  show i < n
  simpa using hi
 yl:=λi H x H' hi s y=>by
  obtain⟨rfl,rfl⟩:=y
  have hi':i < n:=by simpa using hi
  exact⟨Same.refl _,.int (m+(i:Nat)),by simp[hi'],λB2 s2 _=>cx⟩
 stop:=λH s=>by
  show n<=_
  simp
theorem p_ {fe:EF}{g:Kd×PyData->bD->M (Kd×List PyData)}{σ:St}{H:Hp}{R:It->Hp->Prop}{R1:VK}(h:tI K Ew (λΓ=>ar (fe Γ) λx=>g x Γ) σ H R)
  (i:∀B φ Γ k d v H1,Rep K B φ Γ σ H1->Same H H1->Av K B φ H1 k d v->CA K Ew B H Γ σ R (g (k,d) Γ)->R1 v H1):tD K Ew fe σ H R1:=by
 obtain⟨B,φ,Γ,r,q⟩:=h
 refine⟨B,φ,Γ,r,?_⟩
 have q:CA K Ew B H Γ σ R (ar (fe Γ) λx=>g x Γ):=q
 match hm:fe Γ,q with
 | some (.ok (k,d)),q=>exact .inl ⟨k,d,rfl,λv H1 s hv=>i B φ Γ k d v H1 (r.same s) s (hv.av r) q⟩
 | some (.ex c),q=>exact .inr ⟨c,rfl,q⟩
 | none,q=>cases q
theorem S4 {tg l:Expr}{t t':TI}(h:PI X tg l t)(h':PI X tg l t'):PI X tg l (λσ H R=>t σ H R∨t' σ H R):=λpins s σ H R I q=>by
 rcases q with q | q
 ·exact h pins s σ H R I q
 ·exact h' pins s σ H R I q
theorem m_ {tg l:Expr}{fe:EF}(hl:DE X K Ew l fe)(hK:X.K=K:=by rfl):DI X K Ew tg l (pk fe):=(S4 (G4 hl) (Qg hl)).imp λσ H R q=>by
 have q0:=q
 obtain⟨B0,φ0,Γ0,r0,q0⟩:=q0
 have WU:(∃k xs,fe Γ0=some (.ok (k,.list xs)))∨(∃k xs,fe Γ0=some (.ok (k,.tuple xs)))∨∃c,fe Γ0=some (.ex c):=by
  unfold pk at q0
  match hm:fe Γ0,q0 with
  | some (.ok (k,.list xs)),q0=>exact .inl ⟨k,xs,rfl⟩
  | some (.ok (k,.tuple xs)),q0=>exact .inr (.inl ⟨k,xs,rfl⟩)
  | some (.ex c),q0=>exact .inr (.inr ⟨c,rfl⟩)
  | some (.ok (k,.none)),q0=>exact False.elim q0
  | some (.ok (k,.bool _)),q0=>exact False.elim q0
  | some (.ok (k,.int _)),q0=>exact False.elim q0
  | some (.ok (k,.str _)),q0=>exact False.elim q0
  | some (.ok (k,.dict _)),q0=>exact False.elim q0
  | none,q0=>exact False.elim q0
 rcases WU with⟨k,xs,e⟩ | ⟨k,xs,e⟩ | ⟨c,e⟩
 ·left
  refine⟨B0,φ0,Γ0,r0,.inl ⟨k,_,e,λv H1 s hv=> ?_⟩⟩
  simp only[pk,e] at q0
  obtain⟨B1,ψ,s1,r1,hd⟩:=(r0.same s).mS (hv.av r0)
  obtain⟨a,vs,rfl,h1,h2⟩:=bg hd
  rw[hK]
  exact⟨a,rfl,⟨vs,r1.bs.seq h1⟩,q0 _ H1 B1 ψ s s1 r1 (yA h1 h2)⟩
 ·right
  refine⟨B0,φ0,Γ0,r0,.inl ⟨k,_,e,λv H1 s hv=> ?_⟩⟩
  simp only[pk,e] at q0
  obtain⟨B1,ψ,s1,r1,hd⟩:=(r0.same s).mS (hv.av r0)
  obtain⟨a,vs,rfl,h1,h2⟩:=aM hd
  rw[hK]
  exact⟨a,rfl,⟨vs,r1.bs.pz h1⟩,q0 _ H1 B1 ψ s s1 r1 (Lj h1 h2)⟩
 ·left
  simp only[pk,e] at q0
  exact⟨B0,φ0,Γ0,r0,.inr ⟨c,e,q0⟩⟩
theorem dY {tg a:Expr}{fa:EF}{p:Pos}(hg:Gl X "range")(hm:X.mg "range" =none)(ha:DE X K Ew a fa)(hs:starEach [a] X.env=[(false,eval a X.env)]:=by rfl):DI X K Ew tg (.Call (.Name "range" p) [a] [] pos) (fK fa) :=
 (Ih hg hm (b9 ha fz hs) hs).imp λσ H R q=>p_ (g:=λx _=>Fv x.2) q λB φ Γ k d v H1 r s av q=>by
  replace q:CA K Ew B H Γ σ R (Fv d):=q
  cases d <;> try (exact False.elim q)
  rename_i n
  have hv:=aF (av.toD r.bs)
  subst hv
  by_cases hn:-(2^62)<=n/\n < 2^62
  ·simp only[Fv,J5 hn] at q
   refine⟨n,rfl,hn.1,hn.2,q _ H1 B φ s (Same.refl B) r ?_⟩
   have:=Ll (K:=K) (B:=B) (m:=0) (n:=n.toNat)
   simpa only[Int.zero_add] using this
  ·simp only[Fv,J6 hn] at q
   exact False.elim q
theorem bh {tg iter:Expr}{body:List Stmt}{it:IF}{g:GF}{fb:SF}(hp:PassesOwn (model X.prog X.w) X.A X.env X.xe)(hc:X.calm=true)(hi:DI X K Ew tg iter it)(hg:DG X K tg g)(hb:Km X K Ew body fb)
  (hs:∀x,foldedSetIterable iter X.env x=pure x:=by intro _;rfl):DS X K Ew (.For tg iter body [] pos) (bU it g fb):=(Fi hp hc hi hg hb hs).imp λD σ H q=>by
 obtain⟨B,φ,Γ,r,q⟩:=q
 refine⟨B,φ,Γ,r,?_⟩
 unfold bU at q
 match hm:it Γ,q with
 | some (.ok (k,ds)),q=>
  intro J H1 B1 ψ s0 s1 r1 io
  have q:fB K Ew B1 (bj g fb ds (mS k Γ)) D:=fB.base s1 q
  refine⟨λi m σ H=>m=ds.length - i/\i<=ds.length/\∃B2 φ2 Γ2,Same B1 B2/\Rep K B2 φ2 Γ2 σ H/\fB K Ew B1 (bj g fb (ds.drop i) Γ2) D,⟨ds.length,by simp,Xu _,B1,ψ,_,Same.refl B1,r1,by simpa using q⟩,?_⟩
  rintro i m σ2 H2 ⟨rfl,hi2,B2,φ2,Γ2,s2,r2,q2⟩
  by_cases hlt:i < ds.length
  ·refine .inr ⟨io.go i H2 hlt (s2.trans r2.bs),λσ' H'=>∃B3 φ3 Γ3,Same B1 B3/\Rep K B3 φ3 Γ3 σ' H'/\fB K Ew B1 (bj g fb (ds.drop (i+1)) Γ3) D,λσ' H' h'=>⟨ds.length - (i+1),by omega,rfl,hlt,h'⟩,λx H' y=> ?_⟩
   obtain⟨s3,d,e,hd⟩:=io.yl i H2 x H' hlt (s2.trans r2.bs) y
   have r3:=r2.same s3
   have Lm:aJ K (jw φ2 H') d x:=hd _ (s2.trans r3.zE) λa o e1 e2=>by
    rw[fF]
    ·exact e2
    ·intro j hj
     obtain⟨o',e',_⟩:=(r2.nb j a hj).2
     rw[e1] at e';cases e'
   have ed:ds.drop i=d :: ds.drop (i+1):=by
    rw[Yy hlt]
    congr 1
    rw[K5 hlt] at e
    exact Option.some.inj e
   rw[ed] at q2
   have q3:=q2
   simp only[bj] at q3
   cases Ln:g (eR .base d) d Γ2 with
   | none=>simp only[Ln] at q3;exact False.elim q3
   | some Γ3=>
    simp only[Ln,cw,ay] at q3
    refine⟨jw φ2 H',φ2,Γ2,eR .base d,d,Γ3,r3.cut,VR.av r3.cut (VR.eR (lz _ _) (show VR K _ φ2 H' H' .base d x from Lm)),Ln,λB4 φ4 σ4 s4 r4=> ?_⟩
    have sB:Same B1 B4:=(s2.trans r3.zE).trans s4
    refine⟨B4,φ4,Γ3,r4,?_⟩
    match hbm:fb Γ3,q3 with
    | some (.ok (.nx Γ')),q3=>exact λB' φ' σ' mJ s' r'=>⟨B',φ',Γ',sB.trans s',r',q3⟩
    | some (.ok (.ct Γ')),q3=>exact λB' φ' σ' mJ s' r'=>⟨B',φ',Γ',sB.trans s',r',q3⟩
    | some (.ok (.bk Γ')),q3=>exact λB' φ' σ' mJ s' r'=>q3 B' φ' σ' mJ (sB.trans s') r'
    | some (.ok (.rt o d)),q3=>exact λv mJ s' rv=>q3 v mJ (sB.trans s') (rv.base sB)
    | some (.ex c),q3=>exact λmJ s'=>q3 mJ (sB.trans s')
    | none,q3=>exact False.elim q3
  ·have e:i=ds.length:=by omega
   subst e
   rw[List.drop_length] at q2
   exact .inl ⟨io.stop H2 (s2.trans r2.bs),q2 B2 φ2 σ2 H2 s2 r2⟩
 | some (.ex c),q=>exact q
 | none,q=>cases q
theorem uU (n:Nat){c:Expr}{body:List Stmt}{t:TF}{fb:SF}(hp:PassesOwn (model X.prog X.w) X.A X.env X.xe)(hc:DT X K Ew c t)(hb:Km X K Ew body fb):DS X K Ew (.While c body [] pos) (pr n t fb):=(KC hp hc hb).imp λD σ H q=>by
 obtain⟨B,φ,Γ,r,q⟩:=q
 refine⟨λm σ H=>∃B2 φ2 Γ2,Same B B2/\Rep K B2 φ2 Γ2 σ H/\fB K Ew B (gu m t fb Γ2) D,⟨n,B,φ,Γ,Same.refl B,r,q⟩,?_⟩
 rintro m σ2 H2 ⟨B2,φ2,Γ2,s2,r2,q2⟩
 cases m with
 | zero=>exact False.elim q2
 | succ m=>
  refine⟨B2,φ2,Γ2,r2,?_⟩
  simp only[gu] at q2
  match hm:t Γ2,q2 with
  | some (.ok true),q2=>
   refine .inl ⟨true,rfl,λH3 s3=> ?_⟩
   show(if true=true then _ else _)
   rw[J5 rfl]
   refine⟨λσ' H'=>∃B3 φ3 Γ3,Same B B3/\Rep K B3 φ3 Γ3 σ' H'/\fB K Ew B (gu m t fb Γ3) D,λσ' H' h=>⟨m,U2 _,h⟩,B2,φ2,Γ2,r2.same s3,?_⟩
   have q3:fB K Ew B (ar (fb Γ2) λo=>(match o with
    | .nx Γ'=>gu m t fb Γ'
    | .ct Γ'=>gu m t fb Γ'
    | .bk Γ'=>ah (.nx Γ')
    | .rt o d=>ah (.rt o d))) D:=q2
   match hbm:fb Γ2,q3 with
   | some (.ok (.nx Γ')),q3=>exact λB' φ' σ' mJ s' r'=>⟨B',φ',Γ',s2.trans s',r',q3⟩
   | some (.ok (.ct Γ')),q3=>exact λB' φ' σ' mJ s' r'=>⟨B',φ',Γ',s2.trans s',r',q3⟩
   | some (.ok (.bk Γ')),q3=>exact λB' φ' σ' mJ s' r'=>q3 B' φ' σ' mJ (s2.trans s') r'
   | some (.ok (.rt o d)),q3=>exact λv mJ s' rv=>q3 v mJ (s2.trans s') (rv.base s2)
   | some (.ex c),q3=>exact λmJ s'=>q3 mJ (s2.trans s')
   | none,q3=>exact False.elim q3
  | some (.ok false),q2=>
   refine .inl ⟨false,rfl,λH3 s3=> ?_⟩
   show(if false=true then _ else _)
   rw[J6 K3]
   exact q2 B2 φ2 σ2 H3 s2 (r2.same s3)
  | some (.ex c),q2=>exact .inr ⟨c,rfl,λH' s'=>q2 H' (s2.trans s')⟩
  | none,q2=>exact False.elim q2
end
def zH (K:Frag)(B:Hp)(φ:Nat->List Addr):Hp->Hp->List (Kd×PyData)->List V->Prop
 | _,_,[],vs=>vs=[]
 | H,H',x :: xs,vs=>∃v r H1,vs=v :: r/\Same H H1/\Same H1 H'/\VR K B φ H H1 x.1 x.2 v/\zH K B φ H1 H' xs r
def tA (K:Frag)(Ew:Str->Hp->Prop)(fs:List EF):TA:=λσ H Q=>∃B φ Γ,Rep K B φ Γ σ H/\match eArgs fs Γ with
 | some (.ok xs)=>∀vs H',Same H H'->zH K B φ H H' xs vs->Q vs H'
 | some (.ex c)=>∀H',Same B H'->Ew c H'
 | none=>False
def DA (X:Cx)(K:Frag)(Ew:Str->Hp->Prop)(es:List Expr)(fs:List EF):Prop:=PA X es (tA K Ew fs)
theorem PA.imp {X:Cx}{es:List Expr}{t t':TA}(h:PA X es t)(i:∀σ H Q,t' σ H Q->t σ H Q):PA X es t':=λpos pins s σ H Q I q=>h pos pins s σ H Q I (i σ H Q q)
section
variable {X:Cx}{K:Frag}{Ew:Str->Hp->Prop}{pos:Pos}{e:Expr}{es:List Expr}{fe:EF}{fs:List EF}
theorem aj:DA X K Ew [] []:=fz.imp λσ H Q q=>by
 obtain⟨B,φ,Γ,r,q⟩:=q
 exact q [] H (Same.refl H) (by unfold zH;rfl)
theorem ab (h1:DE X K Ew e fe)(h2:DA X K Ew es fs)(hs:starEach (e :: es) X.env=(false,eval e X.env) :: starEach es X.env:=by rfl):DA X K Ew (e :: es) (fe :: fs):=(b9 h1 h2 hs).imp λσ H Q q=>by
 obtain⟨B,φ,Γ,r,q⟩:=q
 refine⟨B,φ,Γ,r,?_⟩
 simp only[eArgs] at q
 match hm:fe Γ,q with
 | some (.ok (k,d)),q=>
  refine .inl ⟨k,d,rfl,λv H1 s1 hv=>⟨B,φ,Γ,r.same s1,?_⟩⟩
  match hm2:eArgs fs Γ,q with
  | some (.ok xs),q=>exact λvs H2 s2 hvs=>q (v :: vs) H2 (s1.trans s2) (by unfold zH;exact⟨v,vs,H1,rfl,s1,s2,hv,hvs⟩)
  | some (.ex c),q=>exact q
  | none,q=>cases q
 | some (.ex c),q=>exact .inr ⟨c,rfl,q⟩
 | none,q=>cases q
theorem zH.toD {B:Hp}{φ:Nat->List Addr}:∀{xs:List (Kd×PyData)} {vs:List V} {H H':Hp},Same B H->Same H H'->zH K B φ H H' xs vs->aA K H' (xs.map Prod.snd) vs
 | [],vs,H,H',_,_,h=>by unfold zH at h;subst h;exact bM
 | x :: xs,vs,H,H',s,s',h=>by
  unfold zH at h
  obtain⟨v,r,H1,rfl,s1,s2,hv,tl⟩:=h
  exact bq (aJ.same s2 _ _ (hv.toD (s.trans s1))) (zH.toD (s.trans s1) s2 tl)
theorem zH.fresh {B:Hp}{φ:Nat->List Addr}:∀{xs:List (Kd×PyData)} {vs:List V} {H H':Hp},bX xs= .fr []->Same H H'->zH K B φ H H' xs vs->∃as,aE K H' (xs.map Prod.snd) vs as/\as.Nodup/\∀a∈as,H a=none
 | [],vs,H,H',_,_,h=>by unfold zH at h;subst h;exact⟨[],lu,X3,λa ha=>by cases ha⟩
 | (k,d) :: xs,vs,H,H',hk,s',h=>by
  match k,hk with
  | .fr [],hk=>
   unfold zH at h
   obtain⟨v,r,H1,rfl,s1,s2,hv,tl⟩:=h
   obtain⟨as,h1,h2,h3⟩:=VR.fresh.mp hv
   obtain⟨bs,g1,g2,g3⟩:=zH.fresh (xs:=xs) (by simpa [bX] using hk) s2 tl
   refine⟨as++bs,lw (IsT.same s2 _ _ _ h1) g1,XX.mpr ⟨h2,g2,λa ha b hb e=> ?_⟩,λa ha=> ?_⟩
   ·subst e
    obtain⟨o,e,_⟩:=IsT.live _ _ _ h1 a ha
    rw[g3 a hb] at e;cases e
   ·rcases Kk.mp ha with ha | ha
    ·exact h3 a ha
    ·exact s1.free (g3 a ha)
  | .fr (_ :: _),hk=>simp[bX] at hk
  | .base,hk=>simp[bX] at hk
  | .any,hk=>simp[bX] at hk
theorem yB (xs:List (Kd×PyData)):bX xs= .fr []∨bX xs= .any:=by
 induction xs with
 | nil=>exact .inl rfl
 | cons x xs ih=>
  obtain⟨k,d⟩:=x
  match k with
  | .fr []=>simpa [bX] using ih
  | .fr (_ :: _)=>exact .inr rfl
  | .base=>exact .inr rfl
  | .any=>exact .inr rfl
theorem oF {Γ:bD}:∀{fs:List EF} {xs:List (Kd×PyData)},eArgs fs Γ=some (.ok xs)->xs.length=fs.length
 | [],xs,h=>by simp only[eArgs,ah] at h;cases h;rfl
 | f :: fs,xs,h=>by
  simp only[eArgs] at h
  match hf:f Γ,h with
  | some (.ok x),h=>
   match hr:eArgs fs Γ,h with
   | some (.ok ys),h=>cases h;rw[Kv,Kv,oF hr]
   | some (.ex c),h=>cases h
   | none,h=>cases h
  | some (.ex c),h=>cases h
  | none,h=>cases h
theorem zH.len {B:Hp}{φ:Nat->List Addr}:∀{xs:List (Kd×PyData)} {vs:List V} {H H':Hp},zH K B φ H H' xs vs->vs.length=xs.length
 | [],vs,H,H',h=>by unfold zH at h;subst h;rfl
 | x :: xs,vs,H,H',h=>by
  unfold zH at h
  obtain⟨v,r,H1,rfl,s1,s2,hv,tl⟩:=h
  rw[Kv,Kv,tl.len]
theorem uw {g:List (Kd×PyData)->M (Kd×PyData)}{σ:St}{H:Hp}{Q:VK}{R:List V->Hp->Prop}(h:tD K Ew (λΓ=>ar (eArgs fs Γ) g) σ H Q)
  (i:∀B φ Γ xs vs H1,Rep K B φ Γ σ H->Rep K B φ Γ σ H1->Same H H1->eArgs fs Γ=some (.ok xs)->zH K B φ H H1 xs vs->Runs K Ew B φ H (g xs) Q->R vs H1):tA K Ew fs σ H R:=by
 obtain⟨B,φ,Γ,r,q⟩:=h
 refine⟨B,φ,Γ,r,?_⟩
 replace q:Runs K Ew B φ H (ar (eArgs fs Γ) g) Q:=q
 match hm:eArgs fs Γ,q with
 | some (.ok xs),q=>exact λvs H1 s hv=>i B φ Γ xs vs H1 r (r.same s) s hm hv q
 | some (.ex c),q=>
  rcases q with⟨k,d,e,_⟩ | ⟨c',e,q⟩
  ·cases e
  ·cases e;exact q
 | none,q=>rcases q with⟨k,d,e,_⟩ | ⟨c',e,q⟩ <;> cases e
theorem eF {x1}(h:DA X K Ew es fs)(hl:fs.length<=1000:=by decide):DE X K Ew (.Tuple es x1 pos) (jH fs):=(Qs h).imp λσ H Q q=>
 uw (g:=λ(xs:List (Kd×PyData))=>ah (eR (bX xs) (.tuple (xs.map Prod.snd)),.tuple (xs.map Prod.snd))) q λB φ Γ xs vs H1 r r1 s hx hv q=>by
  have hz:vs.length<=1000:=by rw[hv.len,oF hx];exact hl
  refine⟨Kq hz (by decide),λp hp=> ?_⟩
  rcases q with⟨k,d,e,q⟩ | ⟨c,e,q⟩
  ·cases e
   refine q _ _ (s.trans (Same.upd hp)) (VR.eR (r1.bs.trans (Same.upd hp)) ?_)
   rcases yB xs with hk | hk
   ·rw[hk]
    obtain⟨as,h1,h2,h3⟩:=hv.fresh hk s
    exact⟨as,Hi (gz.of aB) (aE.same (Same.upd hp) _ _ _ h1),h2,λa ha=> .inr (h3 a ha)⟩
   ·rw[hk]
    exact ur (gz.of aB) (aA.same (Same.upd hp) _ _ (hv.toD r.bs s))
  ·cases e
theorem bK (h:DA X K Ew es fs)(hl:fs.length<=1000:=by decide):DE X K Ew (.List es pos) (cY fs):=(KI h).imp λσ H Q q=>
 uw (g:=λ(xs:List (Kd×PyData))=>ah (bX xs,.list (xs.map Prod.snd))) q λB φ Γ xs vs H1 r r1 s hx hv q=>by
  have hz:vs.length<=1000:=by rw[hv.len,oF hx];exact hl
  refine⟨Kq hz (by decide),λp hp=> ?_⟩
  rcases q with⟨k,d,e,q⟩ | ⟨c,e,q⟩
  ·cases e
   refine q _ _ (s.trans (Same.upd hp)) ?_
   rcases yB xs with hk | hk
   ·rw[hk]
    obtain⟨as,h1,h2,h3⟩:=hv.fresh hk s
    refine⟨p :: as,ic aB (aE.same (Same.upd hp) _ _ _ h1),KJ.mpr ⟨λz=> ?_,h2⟩,λa ha=> .inr ?_⟩
    ·obtain⟨o,e,_⟩:=aE.live _ _ _ h1 p z
     rw[hp] at e;cases e
    ·rcases K2.mp ha with rfl | ha
     ·exact s.free hp
     ·exact h3 a ha
   ·rw[hk]
    exact zy (iV.of aB) (aA.same (Same.upd hp) _ _ (hv.toD r.bs s))
  ·cases e
theorem CB {f:Value}{g:List PyData->Option PyData}{r:List V->Hp->VK->Prop}{σ:St}{H:Hp}{Q:VK}
  (hx:∀xs z us H Q,g xs=some z->aA K H xs us->(∀w H',Same H H'->aX K H H' z w->Q w H')->r us H Q) (q:tD K Ew (lq g fs) σ H Q):UO r (tA K Ew fs) σ H Q :=
 uw (g:=λ(xs:List (Kd×PyData))=>ar (mo (g (xs.map Prod.snd))) λz=>ah (.fr [],z)) q λB φ Γ xs vs H1 r0 r1 s hx' hv q=>by
  obtain⟨z,e,q⟩:=gL (kf:=λ_=> .fr []) q
  exact hx _ z vs H1 Q e (hv.toD r0.bs s) λw H' s' f=>q w H' (s.trans s') (VR.fresh.mpr (f.from s))
theorem cB {x:Str}{id:String}{p:Pos}{g:List PyData->Option PyData}{NY:List EF}(hc:CallD X (.builtin id) g)(hg:Gl X x)(hm:X.mg x=none)(hv:bootBuiltins x=some (.builtin id))(ha:DA X K Ew (e :: es) NY)(hK:X.K=K:=by rfl)(hn:x≠ "__name__":=by decide)(hdb:(x==("__debug__":Str))=false:=by decide)
  (he:starEach (e :: es) X.env=(false,eval e X.env) :: starEach es X.env:=by rfl) (hpl:(backTo pos (starEach es X.env)).any (·.1)=false:=by rfl):DE X K Ew (.Call (.Name x p) (e :: es) [] pos) (lq g NY):=by
 obtain⟨r,hr,hx⟩:=hc
 rw[hK] at hx
 exact(Cc hr hg hm hv ha hn hdb he hpl).imp λσ H Q q=>CB (f:=.builtin id) hx q
theorem cR {x:Str}{T:String}{p:Pos}{g:List PyData->Option PyData}{NY:List EF}(hc:CallD X (.type T) g)(hg:Gl X x)(hm:X.mg x=none)(hv:bootBuiltins x=some (.type T))(ha:DA X K Ew (e :: es) NY)(hK:X.K=K:=by rfl)(hn:x≠ "__name__":=by decide)(hdb:(x==("__debug__":Str))=false:=by decide)
  (he:starEach (e :: es) X.env=(false,eval e X.env) :: starEach es X.env:=by rfl) (hpl:(backTo pos (starEach es X.env)).any (·.1)=false:=by rfl):DE X K Ew (.Call (.Name x p) (e :: es) [] pos) (lq g NY):=by
 obtain⟨r,hr,hx⟩:=hc
 rw[hK] at hx
 exact(Ik hr hg hm hv ha hn hdb he hpl).imp λσ H Q q=>CB (f:=.type T) hx q
def lZ (K:Frag)(n:Nat)(F:FF):Sp:=λvs H Q _=>∃ds,ds.length=n/\aA K H ds vs/\match F ds with
 | some (.ok (o,d))=>∀v H',Same H H'->RV K H H' o d v->Q v H'
 | _=>False
theorem aD {n:Nat}{CX:G5}{k:Nat}{f:Addr}{fd:FuncData}{ps:List Str}{F:FF}{x:Str}{p:Pos}{NY:List EF}{E:XK}(G:cu X.prog X.w X.K X.mg X.base CX k f fd ps (lZ K n F))(hr:hX k X.A)(hg:Gl X x)(hm:X.mg x=some (.ref f))(hk:keepIn X.K (.ref f)=true)(hb:Binds X.K fd ps [])(hx:Passes CX X E)
  (ha:DA X K Ew (e :: es) NY) (hn:NY.length=n:=by rfl) (hE:∀c H,¬ Ew c H:=by exact λ_ _ h=>h) (hdb:(x==("__debug__":Str))=false:=by decide) (he:starEach (e :: es) X.env=(false,eval e X.env) :: starEach es X.env:=by rfl) (hpl:(backTo pos (starEach es X.env)).any (·.1)=false:=by rfl) :
  DE X K Ew (.Call (.Name x p) (e :: es) [] pos) (aG F NY):=(G6 G hr hg hm hk hb .nil hx ha hdb he hpl).imp λσ H Q q=>
 uw (g:=λ(xs:List (Kd×PyData))=>ar (F (xs.map Prod.snd)) λr=>ah (eR (if r.1=true then .fr [] else .any) r.2,r.2)) q λB φ Γ xs vs H1 r r1 s hx' hv q=>by
  rw[Xx]
  refine⟨xs.map Prod.snd,by rw[K4,oF hx'];exact hn,hv.toD r.bs s,?_⟩
  match hF:F (xs.map Prod.snd),q with
  | some (.ok (o,d)),q=>
   intro v H' s' rv
   rcases q with⟨k,d',e,q⟩ | ⟨c,e,q⟩
   ·cases e
    refine q v H' (s.trans s') (VR.eR (r1.bs.trans s') ?_)
    unfold RV at rv
    cases o with
    | true=>
     rw[J5 rfl] at rv⊢
     obtain⟨as,h1,h2,h3⟩:=rv
     exact⟨as,h1,h2,λa ha=> .inr (s.free (h3 a ha))⟩
    | false=>
     rw[J6 K3] at rv⊢
     exact rv
   ·cases e
  | some (.ex c),q=>
   rcases q with⟨k,d',e,q⟩ | ⟨c,e,q⟩
   ·cases e
   ·exact hE _ _ (q H1 r1.bs)
  | none,q=>rcases q with⟨k,d',e,q⟩ | ⟨c,e,q⟩ <;> cases e
theorem Iy {H:Hp}{ds:List PyData}{vs:List V}(N:List Str)(h:aA K H ds vs):Rep K H (λ_=> []) (eD N.length ds) (start N vs) H where
 bs:=Same.refl H
 len:=by
  have:=ap h
  unfold eD start
  simp[this]
 sl:=λi o d e=>by
  have hl:=ap h
  unfold eD at e
  by_cases hi:i < ds.length
  ·rw[XQ (by simpa using hi),Kj] at e
   cases hd:ds[i]? with
   | none=>rw[hd] at e;cases e
   | some d'=>
    rw[hd] at e
    cases e
    obtain⟨v,h1,h2⟩:=j2 h hd
    refine⟨v,?_,?_⟩
    ·unfold start
     rw[XQ (by simp;omega),Kj,h1];rfl
    ·rw[J6 K3];exact h2
  ·rw[Uq (by simpa using hi),List.getElem?_replicate] at e
   split at e <;> cases e
 nd:=λ_=>X3
 nb:=λ_ a ha=>by cases ha
 dj:=λ_ _ _ a ha=>by cases ha
theorem ll.WV {P:Program}{w:World}{mg:Str->Option Value}{base:Heap}{x qual:Str}{st:Stmt}{f:Addr}{fd:FuncData}{N ps:List Str}{k:Nat}{fb:SF}(F:ll K x qual st f fd)(S:aL N ps (ag st))
  (hbody:∀(cdv:Value) (A:Around) (outer:List Env) (s:Shared) (H:Hp) (E:XK),hX k (A.deeper (envOfC qual (ag st) s.heap.objs.size f cdv))->
   Km (zm kx P w K mg base N qual (ag st) f cdv A outer s H E).Kr K (λ_ _=>False) (aH st) fb):cu P w K mg base kx (k+1) f fd ps (lZ K ps.length (eS N.length fb)):=by
 refine F.ok S (λvs H Q E h=> ?_) λcdv A outer s H vs Q E hr h=>⟨_,hbody cdv A outer s H E hr,?_⟩
 ·obtain⟨ds,h1,h2,_⟩:=h
  rw[ap h2];exact h1
 ·obtain⟨ds,h1,h2,h3⟩:=h
  refine⟨H,_,_,Iy N h2,?_⟩
  unfold eS at h3
  match hf:fb (eD N.length ds),h3 with
  | some (.ok (.rt o d)),h3=>exact h3
  | some (.ok (.nx Γ)),h3=>
   exact λB' φ σ H' s' r=>h3 .non H' (s'.trans r.bs) (by unfold RV;rw[J5 rfl];exact⟨[],aJ.toT _ _ rfl Hg,X3,λa ha=>by cases ha⟩)
  | some (.ok (.bk Γ)),h3=>exact False.elim h3
  | some (.ok (.ct Γ)),h3=>exact False.elim h3
  | some (.ex c),h3=>exact False.elim h3
  | none,h3=>exact False.elim h3
end
section
variable {X:Cx}{K:Frag}{Ew:Str->Hp->Prop}{pos:Pos}
theorem VR.ofList {B:Hp}{φ:Nat->List Addr}{H0 H:Hp}{k:Kd}{ds:List PyData}{u:V}(s:Same B H)(h:VR K B φ H0 H k (.list ds) u) :
  ∃p vs,u= .ref p/\iV K H p vs/\vs.length=ds.length/\∀(j:Nat) (d:PyData),ds[j]? =some d->∃w,vs[j]? =some w/\VR K B φ H0 H k d w:=by
 cases k with
 | fr l=>
  obtain⟨as,h1,h2,h3⟩:=h
  obtain⟨a,vs,bs,rfl,e,t,rfl⟩:=dE h1
  refine⟨a,vs,rfl,iV.of e,df t,λj d hd=> ?_⟩
  obtain⟨w,cs,hw,hT,sub⟩:=uP t hd
  have sub':cs.Sublist (a :: bs):=sub.trans (List.sublist_cons_self _ _)
  exact⟨w,hw,cs,hT,h2.sublist sub',λx hx=>h3 x (sub'.subset hx)⟩
 | base=>
  obtain⟨a,vs,rfl,e,t⟩:=bg (show aJ K B (.list ds) u from h)
  exact⟨a,vs,rfl,s.seq e,ap t,λj d hd=>j2 t hd⟩
 | any=>
  obtain⟨a,vs,rfl,e,t⟩:=bg (show aJ K H (.list ds) u from h)
  exact⟨a,vs,rfl,e,ap t,λj d hd=>j2 t hd⟩
theorem VR.S5 {B:Hp}{φ:Nat->List Addr}{H0 H:Hp}{k:Kd}{ds:List PyData}{u:V}(s:Same B H)(h:VR K B φ H0 H k (.tuple ds) u) :
  ∃p vs,u= .ref p/\gz K H p vs/\vs.length=ds.length/\∀(j:Nat) (d:PyData),ds[j]? =some d->∃w,vs[j]? =some w/\VR K B φ H0 H k d w:=by
 cases k with
 | fr l=>
  obtain⟨as,h1,h2,h3⟩:=h
  obtain⟨a,vs,rfl,e,t⟩:=lV h1
  refine⟨a,vs,rfl,e,df t,λj d hd=> ?_⟩
  obtain⟨w,cs,hw,hT,sub⟩:=uP t hd
  exact⟨w,hw,cs,hT,h2.sublist sub,λx hx=>h3 x (sub.subset hx)⟩
 | base=>
  obtain⟨a,vs,rfl,e,t⟩:=aM (show aJ K B (.tuple ds) u from h)
  exact⟨a,vs,rfl,s.pz e,ap t,λj d hd=>j2 t hd⟩
 | any=>
  obtain⟨a,vs,rfl,e,t⟩:=aM (show aJ K H (.tuple ds) u from h)
  exact⟨a,vs,rfl,e,ap t,λj d hd=>j2 t hd⟩
theorem yC {ds:List PyData}{vs:List V}{i:Int}{z:PyData}(hl:vs.length=ds.length)(h:jE ds i=some z):∃j:Nat,ds[j]? =some z/\∀w,vs[j]? =some w->Qx vs i=some w:=by
 unfold jE at h
 cases e:Y.xq ds.length i with
 | none=>rw[e] at h;cases h
 | some j=>
  rw[e] at h
  refine⟨j,h,λw hw=> ?_⟩
  unfold Qx
  rw[show L2.xq vs.length i=Y.xq ds.length i by rw[hl];rfl,e]
  exact hw
theorem iI:Vd X dU:=⟨_,QB,λB φ H0 k x y z u v H Q s e hx hy q=>by
 cases x <;> cases y <;> simp only[dU] at e <;> try (cases e;done)
 ·rename_i x i
  split at e
  ·rename_i hz
   have h1:=j1 (hx.toD s)
   have h2:=aF hy
   subst h1 h2
   cases hc:jE x.cps.toList i with
   | none=>rw[hc] at e;cases e
   | some c=>
    rw[hc] at e
    cases e
    exact .inr (.inr ⟨x,i,c,rfl,rfl,hz,hc,q _ (by rw[show eR k (.str ⟨#[c]⟩)= .fr [] from rfl];exact VR.oC rfl Hh [])⟩)
  ·cases e
 ·rename_i xs i
  have h2:=aF hy
  subst h2
  obtain⟨p,vs,rfl,hq,hl,hg⟩:=VR.ofList s hx
  obtain⟨j,hj,hw⟩:=yC hl e
  obtain⟨w,h3,h4⟩:=hg j z hj
  exact .inl ⟨p,vs,i,w,rfl,rfl,hq,hw w h3,q w (h4.eR s)⟩
 ·rename_i xs i
  have h2:=aF hy
  subst h2
  obtain⟨p,vs,rfl,hq,hl,hg⟩:=VR.S5 s hx
  obtain⟨j,hj,hw⟩:=yC hl e
  obtain⟨w,h3,h4⟩:=hg j z hj
  exact .inr (.inl ⟨p,vs,i,w,rfl,rfl,hq,hw w h3,q w (h4.eR s)⟩)⟩
theorem ii {H:Hp}{d:PyData}{us:List V}(h:aA K H [d] us):∃u,us=[u]/\aJ K H d u:=by
 simp only[aA] at h
 obtain⟨v,r,rfl,hv,rfl⟩:=h
 exact⟨v,rfl,hv⟩
theorem bZ:CallD X (.builtin "len") jI:=⟨_,zp.or zq,λxs z us H Q e h q=>by
 match xs,e,h with
 | [.list ds],e,h=>
  cases e
  obtain⟨u,rfl,hu⟩:=ii h
  obtain⟨a,vs,rfl,h1,h2⟩:=bg hu
  exact .inl ⟨a,vs,rfl,.inl h1,by rw[ap h2];exact q _ H (Same.refl H) (aX.oC rfl cx)⟩
 | [.tuple ds],e,h=>
  cases e
  obtain⟨u,rfl,hu⟩:=ii h
  obtain⟨a,vs,rfl,h1,h2⟩:=aM hu
  exact .inl ⟨a,vs,rfl,.inr h1,by rw[ap h2];exact q _ H (Same.refl H) (aX.oC rfl cx)⟩
 | [.str x],e,h=>
  simp only[jI] at e
  split at e
  ·rename_i hz
   cases e
   obtain⟨u,rfl,hu⟩:=ii h
   have:=j1 hu
   subst this
   exact .inr ⟨x,rfl,hz,q _ H (Same.refl H) (aX.oC rfl cx)⟩
  ·cases e⟩
theorem pD:CallD X (.type "list") p6:=⟨_,zr,λxs z us H Q e h q=>by
 match xs,e,h with
 | [.list ds],e,h=>
  simp only[p6] at e
  split at e
  ·rename_i hn
   cases e
   obtain⟨u,rfl,hu⟩:=ii h
   obtain⟨a,vs,rfl,h1,h2⟩:=bg hu
   exact⟨a,vs,rfl,.inl h1,λl hl=>q _ _ (Same.upd hl) (aX.lst hn aB (aA.same (Same.upd hl) _ _ h2) hl)⟩
  ·cases e
 | [.tuple ds],e,h=>
  simp only[p6] at e
  split at e
  ·rename_i hn
   cases e
   obtain⟨u,rfl,hu⟩:=ii h
   obtain⟨a,vs,rfl,h1,h2⟩:=aM hu
   exact⟨a,vs,rfl,.inr h1,λl hl=>q _ _ (Same.upd hl) (aX.lst hn aB (aA.same (Same.upd hl) _ _ h2) hl)⟩
  ·cases e⟩
theorem dg:CallD X (.type "tuple") ib:=⟨_,xt,λxs z us H Q e h q=>by
 match xs,e,h with
 | [.list ds],e,h=>
  simp only[ib] at e
  split at e
  ·rename_i hn
   cases e
   obtain⟨u,rfl,hu⟩:=ii h
   obtain⟨a,vs,rfl,h1,h2⟩:=bg hu
   exact⟨a,vs,rfl,.inl ⟨h1,λl hl=>q _ _ (Same.upd hl) (aX.tup hn (gz.of aB) (aA.same (Same.upd hl) _ _ h2))⟩⟩
  ·cases e
 | [.tuple ds],e,h=>
  simp only[ib] at e
  split at e
  ·rename_i hn
   cases e
   obtain⟨u,rfl,hu⟩:=ii h
   obtain⟨a,vs,rfl,h1,h2⟩:=aM hu
   exact⟨a,vs,rfl,.inr ⟨h1,q _ H (Same.refl H) (aX.oC (by rw[bL];exact hn) hu)⟩⟩
  ·cases e⟩
def WW:PyData->String
 | .none=> "NoneType"
 | .bool _=> "bool"
 | .int _=> "int"
 | .str _=> "str"
 | .list _=> "list"
 | .tuple _=> "tuple"
 | .dict _=> "dict"
theorem NZ (K:Frag):∀n∈["int","bool","str","list","tuple","dict"],∀d:PyData,PySem.W.kitOne K (.type (WW d)) (.type n)=some (uK n d):=by
 intro n hn d
 simp only[K2,List.mem_nil_iff,or_false] at hn
 rcases hn with rfl | rfl | rfl | rfl | rfl | rfl <;> cases d <;> first | rfl | (unfold PySem.W.kitOne PySem.W.kitCls;decide+kernel)
theorem Iz:kz X (.builtin "isinstance") (λxs H Q=>∃x d n,xs=[x,.ty n]/\aJ X.K H d x/\n∈["int","bool","str","list","tuple","dict"]/\Q (.bl (uK n d)) H):=by
 intro pins s σ H xs us Q I r h
 obtain⟨x,d,n,rfl,hd,hn,q⟩:=h
 obtain⟨u,w,rfl,ru,Il⟩:=r.two
 cases(show w=Value.type n from Il)
 have e:=NZ X.K n hn d
 have fin:∀tk,EP X pins σ Q (.bool (uK n d)) {s with toks:=tk}:=λtk=>⟨.bl _,H,I.tok tk,rfl,q⟩
 cases d with
 | none=>have:=lT hd;subst this;cases(show u=Value.none from ru);exact PySem.W.kia_one PySem.W.kitx_none I.Ie True.intro e (λz=>nomatch z) fin
 | bool y=>have:=jT hd;subst this;cases(show u=Value.bool y from ru);exact PySem.W.kia_one PySem.W.kitx_bool I.Ie True.intro e (λz=>nomatch z) fin
 | int i=>have:=aF hd;subst this;obtain⟨t,q⟩:=(show∃t,u=Value.int i t from ru);cases q;exact PySem.W.kia_one PySem.W.kitx_int I.Ie True.intro e (λz=>nomatch z) fin
 | str y=>have:=j1 hd;subst this;obtain⟨t,q⟩:=(show∃t,u=Value.str y t from ru);cases q;exact PySem.W.kia_one PySem.W.kitx_str I.Ie True.intro e (λz=>nomatch z) fin
 | list ds=>
  obtain⟨a,vs,rfl,h1,_⟩:=bg hd
  cases(show u=Value.ref a from ru)
  obtain⟨its,rv,⟨o,n,h1,hc,_,hd⟩,_⟩:=I.list h1
  exact PySem.W.kia_one PySem.W.kitx_list I.Ie ⟨_,h1,hc⟩ e (λz=>nomatch z) fin
 | tuple ds=>
  obtain⟨a,vs,rfl,h1,_⟩:=aM hd
  cases(show u=Value.ref a from ru)
  obtain⟨its,rv,⟨o,h1,hc,n,hd⟩,_⟩:=I.tuple h1
  exact PySem.W.kia_one PySem.W.kitx_tuple I.Ie ⟨o,h1,hc⟩ e (λz=>nomatch z) fin
 | dict kvs=>
  obtain⟨a,ks,rfl,h1,_⟩:=eE hd
  cases(show u=Value.ref a from ru)
  obtain⟨⟨_,_,_,_,o,es,h1,hc,_⟩,_⟩:=h1.ok I.hok
  exact PySem.W.kia_one PySem.W.kitx_dict I.Ie ⟨o,h1,hc.1⟩ e (λz=>nomatch z) fin
theorem zI {n:String}{x:Str}{a:Expr}{fa:EF}{p p2:Pos}(hn:n∈["int","bool","str","list","tuple","dict"])(hg:Gl X "isinstance")(hm:X.mg "isinstance" =none)(ha:DE X K Ew a fa)(ht:PE X (.Name x p2) (tC (.ty n)))(hK:X.K=K:=by rfl)
  (he:starEach [a,.Name x p2] X.env=(false,eval a X.env) :: starEach [.Name x p2] X.env:=by rfl) (he2:starEach [.Name x p2] X.env=(false,eval (.Name x p2) X.env) :: starEach [] X.env:=by rfl) (hpl:(backTo pos (starEach [.Name x p2] X.env)).any (·.1)=false:=by rfl) :
  DE X K Ew (.Call (.Name "isinstance" p) [a,.Name x p2] [] pos) (Ck n fa):=(Cc Iz hg hm PyProof.Rows.boot_isinstance (b9 ha (b9 ht fz he2) he) (by decide) (by decide) he hpl).imp λσ H Q q=>by
 obtain⟨B,φ,Γ,r,q⟩:=q
 refine⟨B,φ,Γ,r,(q.bind r).mono λu H1 s1 ⟨k,d,e1,v1,r1,_,q1⟩=> ?_⟩
 refine⟨u,d,n,rfl,by rw[hK];exact v1.toD r1.bs,hn,?_⟩
 rcases q1 with⟨k,d',e,q1⟩ | ⟨c,e,q1⟩
 ·cases e;exact q1 _ H1 s1 (VR.oC rfl dD [])
 ·cases e
theorem Rep.own {B H:Hp}{φ:Nat->List Addr}{Γ:bD}{σ:St}(r:Rep K B φ Γ σ H){i:Nat}{d:PyData}(h:Γ[i]? =some (some (true,d))):∃v,σ[i]? =some (some v)/\IsT K H d v (φ i):=by
 obtain⟨v,h1,h2⟩:=r.sl i true d h
 rw[J5 rfl] at h2
 exact⟨v,h1,h2⟩
theorem Rep.chg {B H:Hp}{φ:Nat->List Addr}{Γ:bD}{σ:St}{i:Nat}{l:Addr}{o o':HO}{d:PyData}{v:V}{as:List Addr}(r:Rep K B φ Γ σ H)(hi:l∈φ i)(hl:H l=some o)(hm:hZ o)(hv:σ[i]? =some (some v))
  (ht:IsT K (upd H l o') d v as) (hnd:as.Nodup) (hs:∀a∈as,a∈φ i∨(B a=none/\∀j,a∉φ j)) (hm':hZ o'):Rep K B (λj=>if j=i then as else φ j) (Γ.set i (some (true,d))) σ (upd H l o'):=by
 have hB:B l=none:=(r.nb i l hi).1
 have hn:∀j,j≠i->l∉φ j:=λj hj z=>r.dj j i hj l z hi
 have r1:Rep K B φ (Γ.set i none) σ (upd H l o'):={
  bs:=r.bs.QJ hB
  len:=by rw[U7];exact r.len
  sl:=λj o d' e=>by
   by_cases hj:j=i
   ·subst hj
    by_cases hlt:j < Γ.length
    ·rw[XU hlt] at e;cases e
    ·rw[Xz (by rw[U7];omega)] at e;cases e
   ·rw[XY (Ne.symm hj)] at e
    obtain⟨w,h1,h2⟩:=r.sl j o d' e
    refine⟨w,h1,?_⟩
    cases o with
    | true=>rw[J5 rfl] at h2⊢;exact IsT.upd hl hm _ _ _ (hn j hj) h2
    | false=>rw[J6 K3] at h2⊢;exact h2
  nd:=r.nd
  nb:=λj a ha=>by
   refine⟨(r.nb j a ha).1,?_⟩
   by_cases hal:a=l
   ·subst hal;exact⟨o',aB,hm'⟩
   ·obtain⟨o2,e2,m2⟩:=(r.nb j a ha).2
    exact⟨o2,by rw[a9 hal];exact e2,m2⟩
  dj:=r.dj}
 have r2:=r1.put i ht hnd λa ha=>by
  rcases hs a ha with z | z
  ·exact⟨(r.nb i a z).1,λj hj hz=>r.dj j i hj a hz z⟩
  ·exact⟨z.1,λj _=>z.2 j⟩
 rw[List.set_set] at r2
 have e:σ.set i (some v)=σ:=by
  apply List.ext_getElem?
  intro j
  by_cases hj:j=i
  ·subst hj
   have hlt:j < σ.length:=(X5.mp hv).1
   rw[XU hlt,hv]
  ·rw[XY (Ne.symm hj)]
 rw[e] at r2
 exact r2
variable {o e:Expr}{fe:EF}{apos cpos:Pos}
theorem fC {i:Nat}(ho:PE X o (pd i))(he:DE X K Ew e fe)(hK:X.K=K:=by rfl)
  (hbase:attributeBase o "append" X.env (eval o X.env)=eval o X.env:=by rfl)
  (hfew:((backTo cpos (starEach [e] X.env)).all (λx=> !x.1) && (backToKw cpos (keywordEach [] X.env)).all (λx=>x.1.isSome)
   && decide (([e]:List Expr).length+([]:List Keyword).length+(if ([]:List Keyword).isEmpty then 0 else 1) < 30))=true:=by rfl)
  (hline:(apos.endLine==cpos.line)=true:=by rfl) (hs:starEach [e] X.env=(false,eval e X.env) :: starEach [] X.env:=by rfl) (hplain:(backTo cpos (starEach [] X.env)).any (·.1)=false:=by rfl)
  (hsw:swapsWith (.Call (.Attribute o "append" apos) [e] [] cpos) none pos.line X.env=pure false:=by rfl) :
  DS X K Ew (.Expr (.Call (.Attribute o "append" apos) [e] [] cpos) pos) (jo i fe) :=
 (pZ (Ha PySem.F.plainAttrs_list PySem.F.slot_list_append PySem.F.type_list_append qZ ho (b9 he fz hs) hbase hfew hline hs hplain) hsw).imp λD σ H q=>by
  obtain⟨B,φ,Γ,r,q⟩:=q
  unfold jo at q
  match hg:Γ[i]?,q with
  | some (some (true,.list xs)),q=>
   obtain⟨v,hv,hT⟩:=r.own hg
   obtain⟨l,vs,bs,rfl,hl,ht,hφ⟩:=dE hT
   refine⟨.ref l,hv,.inl ⟨rfl,vs,iV.of hl⟩,B,φ,Γ,r,?_⟩
   match hm:fe Γ,q with
   | some (.ok (k,d)),q=>
    refine .inl ⟨k,d,rfl,λy H1 s1 hy=> ?_⟩
    have r1:=r.same s1
    have hl1:=s1 _ _ hl
    have hlen:vs.length=xs.length:=df ht
    have av:=hy.av r
    have hli:l∈φ i:=by rw[hφ];exact K8
    match k,q,av with
    | .fr [],q,av=>
     by_cases hz:xs.length < sizeLine
     ·replace q:fB K Ew B (ah (.nx (Γ.set i (some (true,.list (xs++[d])))))) D:=by simpa only[ar,J5 hz] using q
      refine⟨l,vs,y,rfl,rfl,hl1,by omega,?_⟩
      obtain⟨as,h1,h2,h3⟩:=av
      have h3':∀a∈as,B a=none/\∀j,a∉φ j:=λa ha=>by
       rcases h3 a ha with⟨_,z,_⟩ | z
       ·cases z
       ·exact z
      have S6:l∉as:=λz=>(h3' l z).2 i hli
      have hnd:=r.nd i
      rw[hφ] at hnd
      have hnb:l∉bs:=(KJ.mp hnd).1
      refine q B _ σ _ (Same.refl B) (r1.chg (d:=.list (xs++[d])) (as:=l :: (bs++as)) hli hl1 trivial hv ?_ ?_ ?_ trivial)
      ·exact ic aB (fP (aE.upd hl1 trivial _ _ _ hnb (aE.same s1 _ _ _ ht)) (by
        have:=lw (IsT.upd (o':=.lst (vs++[y])) hl1 trivial _ _ _ S6 h1) (lu (K:=K))
        rwa [Xx] at this))
      ·refine KJ.mpr ⟨λz=> ?_,XX.mpr ⟨(KJ.mp hnd).2,h2,λa ha b hb e=> ?_⟩⟩
       ·rcases Kk.mp z with z | z
        ·exact hnb z
        ·exact S6 z
       ·subst e
        exact(h3' a hb).2 i (by rw[hφ];exact K9 _ ha)
      ·intro a ha
       rcases K2.mp ha with rfl | ha
       ·exact .inl hli
       ·rcases Kk.mp ha with ha | ha
        ·exact .inl (by rw[hφ];exact K9 _ ha)
        ·exact .inr (h3' a ha)
     ·simp only[ar,J6 hz] at q
      exact False.elim q
    | .fr [j],q,av=>
     by_cases hz:xs.length < sizeLine/\i≠j
     ·replace q:fB K Ew B (ah (.nx ((Γ.set j none).set i (some (true,.list (xs++[d])))))) D:=by simpa only[ar,J5 hz] using q
      refine⟨l,vs,y,rfl,rfl,hl1,by omega,?_⟩
      obtain⟨as,h1,h2,h3⟩:=av
      have h3':∀a∈as,a∈φ j∨(B a=none/\∀j',a∉φ j'):=λa ha=>by
       rcases h3 a ha with⟨j',z,z2⟩ | z
       ·rw[K7.mp z] at z2;exact .inl z2
       ·exact .inr z
      have S6:l∉as:=λz=>by
       rcases h3' l z with z | z
       ·exact r.dj i j hz.2 l hli z
       ·exact z.2 i hli
      have hnd:=r.nd i
      rw[hφ] at hnd
      have hnb:l∉bs:=(KJ.mp hnd).1
      have r2:=r1.kill j
      have hdi:Iw φ j i=φ i:=J6 hz.2
      refine q B _ σ _ (Same.refl B) (r2.chg (d:=.list (xs++[d])) (as:=l :: (bs++as)) (by rw[hdi];exact hli) hl1 trivial hv ?_ ?_ ?_ trivial)
      ·exact ic aB (fP (aE.upd hl1 trivial _ _ _ hnb (aE.same s1 _ _ _ ht)) (by
        have:=lw (IsT.upd (o':=.lst (vs++[y])) hl1 trivial _ _ _ S6 h1) (lu (K:=K))
        rwa [Xx] at this))
      ·refine KJ.mpr ⟨λz=> ?_,XX.mpr ⟨(KJ.mp hnd).2,h2,λa ha b hb e=> ?_⟩⟩
       ·rcases Kk.mp z with z | z
        ·exact hnb z
        ·exact S6 z
       ·subst e
        have hai:a∈φ i:=by rw[hφ];exact K9 _ ha
        rcases h3' a hb with z | z
        ·exact r.dj i j hz.2 a hai z
        ·exact z.2 i hai
      ·intro a ha
       rw[hdi]
       rcases K2.mp ha with rfl | ha
       ·exact .inl hli
       ·rcases Kk.mp ha with ha | ha
        ·exact .inl (by rw[hφ];exact K9 _ ha)
        ·rcases h3' a ha with z | z
         ·refine .inr ⟨(r.nb j a z).1,λj' hj'=> ?_⟩
          obtain⟨n1,n2⟩:=ig hj'
          exact r.dj j' j n1 a n2 z
         ·exact .inr ⟨z.1,λj' hj'=>z.2 j' (ig hj').2⟩
     ·simp only[ar,J6 hz] at q
      exact False.elim q
    | .fr (_ :: _ :: _),q,_=>exact False.elim q
    | .base,q,_=>exact False.elim q
    | .any,q,_=>exact False.elim q
   | some (.ex c),q=>exact .inr ⟨c,rfl,q⟩
   | none,q=>cases q
  | some (some (true,.none)),q|some (some (true,.bool _)),q|some (some (true,.int _)),q|some (some (true,.str _)),q|some (some (true,.tuple _)),q|some (some (true,.dict _)),q|some (some (false,_)),q|some none,q|none,q=>cases q
end
section
variable {K:Frag}{H H':Hp}
theorem gz.mv {a:Addr}{xs:List V}(e:∀a o,H a=some o->¬ hZ o->H' a=some o)(h:gz K H a xs):gz K H' a xs:=gz.toB e h
mutual
theorem IsT.mv (e:∀a o,H a=some o->¬ hZ o->H' a=some o):∀(d:PyData) (v:V) (as:List Addr),(∀a∈as,∀o,H a=some o->H' a=some o)->IsT K H d v as->IsT K H' d v as
 | .none,v,as,_,h=>by simpa only[IsT] using h
 | .bool b,v,as,_,h=>by simpa only[IsT] using h
 | .int i,v,as,_,h=>by simpa only[IsT] using h
 | .str x,v,as,_,h=>by simpa only[IsT] using h
 | .list xs,v,as,m,h=>by
  simp only[IsT] at h⊢
  obtain⟨a,vs,bs,e1,h1,h2,rfl⟩:=h
  exact⟨a,vs,bs,e1,m a K8 _ h1,aE.mv e xs vs bs (λb hb=>m b (K9 _ hb)) h2,rfl⟩
 | .tuple xs,v,as,m,h=>by
  simp only[IsT] at h⊢
  obtain⟨a,vs,e1,h1,h2⟩:=h
  exact⟨a,vs,e1,h1.mv e,aE.mv e xs vs as m h2⟩
 | .dict kvs,v,as,m,h=>by
  simp only[IsT] at h⊢
  obtain⟨a,ks,bs,e1,h1,h2,rfl⟩:=h
  exact⟨a,ks,bs,e1,m a K8 _ h1,aR.mv e kvs ks.1 bs (λb hb=>m b (K9 _ hb)) h2,rfl⟩
theorem aE.mv (e:∀a o,H a=some o->¬ hZ o->H' a=some o):∀(ds:List PyData) (vs:List V) (as:List Addr),(∀a∈as,∀o,H a=some o->H' a=some o)->aE K H ds vs as->aE K H' ds vs as
 | [],vs,as,_,h=>by simpa only[aE] using h
 | d :: ds,vs,as,m,h=>by
  simp only[aE] at h⊢
  obtain⟨v,r,a1,a2,e1,rfl,h1,h2⟩:=h
  exact⟨v,r,a1,a2,e1,rfl,IsT.mv e d v a1 (λb hb=>m b (KY _ hb)) h1,aE.mv e ds r a2 (λb hb=>m b (K1 _ hb)) h2⟩
theorem aR.mv (e:∀a o,H a=some o->¬ hZ o->H' a=some o):∀(ds:List (PyData×PyData)) (ks:List (PyData×V×V)) (as:List Addr),(∀a∈as,∀o,H a=some o->H' a=some o)->aR K H ds ks as->aR K H' ds ks as
 | [],ks,as,_,h=>by simpa only[aR] using h
 | (k,d) :: r,ks,as,m,h=>by
  simp only[aR] at h⊢
  obtain⟨kv,v,q,a1,a2,e1,rfl,h1,h2,h3⟩:=h
  exact⟨kv,v,q,a1,a2,e1,rfl,IsT.mv e k kv [] (λb hb=>by cases hb) h1,IsT.mv e d v a1 (λb hb=>m b (KY _ hb)) h2,aR.mv e r q a2 (λb hb=>m b (K1 _ hb)) h3⟩
end
end
open Classical in
noncomputable def j4 (D:Addr)(H:Hp):Hp:=λa=>if a=D then none else H a
theorem kA {D a:Addr}{H:Hp}(h:a≠D):j4 D H a=H a:=by unfold j4;rw[J6 h]
theorem lB {D:Addr}{H:Hp}:j4 D H D=none:=by unfold j4;rw[J5 rfl]
theorem oG {D:Addr}{H:Hp}:Same (j4 D H) H:=λa o e=>by
 by_cases h:a=D
 ·subst h;rw[lB] at e;cases e
 ·rw[kA h] at e;exact e
theorem oH {D:Addr}{H H':Hp}(s:Same H H'):Same (j4 D H) (j4 D H'):=λa o e=>by
 by_cases h:a=D
 ·subst h;rw[lB] at e;cases e
 ·rw[kA h] at e⊢;exact s a o e
theorem yD {D:Addr}{H0 H:Hp}(h:H0 D=none)(s:Same H0 H):Same H0 (j4 D H):=λa o e=>by
 rw[kA (fJ e h)];exact s a o e
theorem CC {D:Addr}{H:Hp}{o:HO}:j4 D (upd H D o)=j4 D H:=by
 funext a
 by_cases h:a=D
 ·subst h;rw[lB,lB]
 ·rw[kA h,kA h,a9 h]
theorem IA {xs:List (Kd×PyData)}{x:Kd×PyData}(h:iH (xs++[x])=some (.fr [])):iH xs=some (.fr [])/\x.1= .fr []:=by
 induction xs with
 | nil=>
  obtain⟨k,d⟩:=x
  match k,h with
  | .fr [],h=>exact⟨rfl,rfl⟩
  | .fr (_ :: _),h=>simp[iH] at h
  | .base,h=>simp[iH] at h
  | .any,h=>simp[iH] at h
 | cons y xs ih=>
  obtain⟨k,d⟩:=y
  match k,h with
  | .fr [],h=>
   simp only[U8,iH] at h⊢
   exact ih h
  | .fr (_ :: _),h=>simp[iH] at h
  | .base,h=>
   simp only[U8,iH] at h
   cases e:iH (xs++[x]) with
   | none=>rw[e] at h;cases h
   | some k=>rw[e] at h;cases h
  | .any,h=>simp[iH] at h
theorem Lo {xs:List (Kd×PyData)}{k:Kd}(h:iH xs=some k):(k= .fr []∨k= .any)/\∀x∈xs,x.1= .fr []∨x.1= .base:=by
 induction xs generalizing k with
 | nil=>cases h;exact⟨.inl rfl,λx hx=>by cases hx⟩
 | cons y xs ih=>
  obtain⟨k',d⟩:=y
  match k',h with
  | .fr [],h=>
   simp only[iH] at h
   obtain⟨h1,h2⟩:=ih h
   exact⟨h1,λx hx=>by rcases K2.mp hx with rfl | hx;exact .inl rfl;exact h2 x hx⟩
  | .fr (_ :: _),h=>simp[iH] at h
  | .base,h=>
   simp only[iH] at h
   cases e:iH xs with
   | none=>rw[e] at h;cases h
   | some k2=>
    rw[e] at h;cases h
    obtain⟨h1,h2⟩:=ih e
    exact⟨.inr rfl,λx hx=>by rcases K2.mp hx with rfl | hx;exact .inr rfl;exact h2 x hx⟩
  | .any,h=>simp[iH] at h
abbrev N0:Str->Hp->Prop:=λ_ _=>False
section
variable {X:Cx}{K:Frag}{Ew:Str->Hp->Prop}{pos px:Pos}{scope:Scope}{v:Str}{F:List Str}{ix:List Nat}{elt iter:Expr}{ifs:List Expr}{it:IF}{ft:TF}{fe:EF}
theorem iW {Y:Cx}:NN Y [] (QK K N0 gm):=λpins s σ H Q I q=>by
 obtain⟨B,φ,Γ,r,q⟩:=q
 rcases q with⟨b,e,q⟩ | ⟨c,e,q⟩
 ·cases e;exact NO pins s σ H Q I (q H (Same.refl H))
 ·cases e
theorem zJ {Y:Cx}{c:Expr}(h:DT Y K N0 c ft):NN Y [c] (QK K N0 ft):=NP h
theorem Lp {B H H1 H':Hp}{φ:Nat->List Addr}{Γ:bD}{σ:St}{D:Addr}{d:PyData}{x:V}(r:Rep K B φ Γ σ H)(s0:Same H H1)(hD:H1 D=none)(s1:Same H1 H')(hx:aJ K (j4 D H') d x) :
  Rep K (j4 D H') (λ_=> []) (some (false,d) :: oW Γ ix) (some x :: pe σ ix) H' where
 bs:=oG
 len:=by unfold oW pe;simp
 sl:=λi o d' e=>by
  cases i with
  | zero=>
   have e':some (some (false,d))=some (some (o,d')):=e
   cases e'
   exact⟨x,rfl,by rw[J6 K3];exact hx⟩
  | succ i=>
   have e':(oW Γ ix)[i]? =some (some (o,d')):=e
   unfold oW at e'
   rw[Kj] at e'
   cases hk:ix[i]? with
   | none=>rw[hk] at e';cases e'
   | some k=>
    rw[hk] at e'
    have e2:(Γ[k]?).join.map (λp=>(false,p.2))=some (o,d'):=Option.some.inj e'
    cases hg:Γ[k]? with
    | none=>rw[hg] at e2;cases e2
    | some s=>
     rw[hg] at e2
     cases s with
     | none=>cases e2
     | some p=>
      obtain⟨o',d2⟩:=p
      cases e2
      obtain⟨w,h1,h2⟩:=r.sl k o' d2 hg
      have hw:aJ K H d2 w:=by
       cases o' with
       | true=>rw[J5 rfl] at h2;exact IsT.toD _ _ _ h2
       | false=>rw[J6 K3] at h2;exact aJ.same r.bs _ _ h2
      refine⟨w,?_,?_⟩
      ·show(pe σ ix)[i]? =_
       unfold pe
       rw[Kj,hk,U0,h1];rfl
      ·rw[J6 K3]
       exact aJ.same (yD hD s1) _ _ (aJ.same s0 _ _ hw)
 nd:=λ_=>X3
 nb:=λ_ a ha=>by cases ha
 dj:=λ_ _ _ a ha=>by cases ha
theorem Hl {σ:St}{H:Hp}{Q:VK}(q:tD K Ew (cI it ix ft fe) σ H Q):K_ (tI K Ew it) ix (QK K N0 ft) (tD K N0 fe) σ H Q:=by
  obtain⟨B,φ,Γ,r,q⟩:=q
  refine⟨B,φ,Γ,r,?_⟩
  replace q:Runs K Ew B φ H (ar (it Γ) λx=>ar (mo (fE ft fe (oW Γ ix) x.2)) λys=>ar (mo (iH ys)) λk=>if x.2.length<=100000 then ah (k,.list (ys.map Prod.snd)) else none) Q:=q
  match hm:it Γ,q with
  | some (.ok (k0,ds)),q=>
   intro J H1 B1 ψ s0 sB r1 io D hD
   replace q:Runs K Ew B φ H (ar (mo (fE ft fe (oW Γ ix) ds)) λys=>ar (mo (iH ys)) λk=>if ds.length<=100000 then ah (k,.list (ys.map Prod.snd)) else none) Q:=q
   match hys:fE ft fe (oW Γ ix) ds,q with
   | none,q=>rcases q with⟨k,d,e,_⟩ | ⟨c,e,_⟩ <;> cases e
   | some ys,q=>
    replace q:Runs K Ew B φ H (ar (mo (iH ys)) λk=>if ds.length<=100000 then ah (k,.list (ys.map Prod.snd)) else none) Q:=q
    match hkk:iH ys,q with
    | none,q=>rcases q with⟨k,d,e,_⟩ | ⟨c,e,_⟩ <;> cases e
    | some kk,q=>
     replace q:Runs K Ew B φ H (if ds.length<=100000 then ah (kk,.list (ys.map Prod.snd)) else none) Q:=q
     have hlen:ds.length<=100000:=Decidable.byContradiction λhn=>by
      rw[J6 hn] at q
      rcases q with⟨k,d,e,_⟩ | ⟨c,e,_⟩ <;> cases e
     rw[J5 hlen] at q
     have q:∀v H',Same H H'->VR K B φ H H' kk (.list (ys.map Prod.snd)) v->Q v H':=by
      rcases q with⟨k,d,e,q⟩ | ⟨c,e,_⟩
      ·cases e;exact q
      ·cases e
     obtain⟨hk1,hk2⟩:=Lo hkk
     refine⟨λi m zs Hc=>m=ds.length - i/\i<=ds.length/\Same H1 Hc/\Hc D=some (.lst zs)/\zs.length<=i/\∃done rest,fE ft fe (oW Γ ix) (ds.drop i)=some rest/\ys=done++rest/\
      aA K (j4 D Hc) (done.map Prod.snd) zs/\(iH done=some (.fr [])->∃as,aE K (j4 D Hc) (done.map Prod.snd) zs as/\as.Nodup/\∀a∈as,H1 a=none),
      ⟨ds.length,by simp,Xu _,Same.upd hD,aB,Xu _,[],ys,by simpa using hys,rfl,bM,λ_=>⟨[],lu,X3,λa ha=>by cases ha⟩⟩,?_⟩
     rintro i m zs Hc ⟨rfl,hi2,sc,Sa,Wd,done,rest,hrest,Lq,hel,hfr⟩
     refine⟨Sa,?_⟩
     by_cases hlt:i < ds.length
     ·refine .inr ⟨io.go i Hc hlt (r1.bs.trans sc),λx H' hy=> ?_⟩
      obtain⟨s3,d,hd,hitem⟩:=io.yl i Hc x H' hlt (r1.bs.trans sc) hy
      have sc':=sc.trans s3
      have Ve:B1 D=none:=by
       cases e:B1 D with
       | none=>rfl
       | some o=>have:=r1.bs _ _ e;rw[hD] at this;cases this
      have hx:aJ K (j4 D H') d x:=hitem _ (yD Ve (r1.bs.trans sc')) λa o e1 e2=>by
       rw[kA]
       ·exact e2
       ·rintro rfl;rw[Sa] at e1;cases e1
      have rin:=Lp (ix:=ix) r s0 hD sc' hx
      have ed:ds.drop i=d :: ds.drop (i+1):=by
       rw[Yy hlt]
       congr 1
       rw[K5 hlt] at hd
       exact Option.some.inj hd
      rw[ed] at hrest
      simp only[fE] at hrest
      refine⟨j4 D H',λ_=> [],some (false,d) :: oW Γ ix,rin,?_⟩
      match hft:ft (some (false,d) :: oW Γ ix),hrest with
      | some (.ok true),hrest=>
       refine .inl ⟨true,rfl,λH3 s4=> ?_⟩
       show(if true=true then _ else _)
       rw[J5 rfl]
       refine⟨j4 D H',λ_=> [],some (false,d) :: oW Γ ix,rin.same s4,?_⟩
       match hfe:fe (some (false,d) :: oW Γ ix),hrest with
       | some (.ok (k,d2)),hrest=>
        refine .inl ⟨k,d2,rfl,λw H4 s5 hv=> ?_⟩
        have Vf:H' D=some (.lst zs):=s3 _ _ Sa
        have T1:H3 D=some (.lst zs):=s4 _ _ Vf
        have Wf:H4 D=some (.lst zs):=s5 _ _ T1
        replace hrest:(fE ft fe (oW Γ ix) (ds.drop (i+1))).map ((k,d2) :: ·)=some rest:=hrest
        cases hr2:fE ft fe (oW Γ ix) (ds.drop (i+1)) with
        | none=>rw[hr2] at hrest;cases hrest
        | some Pw=>
         rw[hr2] at hrest
         have hrr:(k,d2) :: Pw=rest:=Option.some.inj hrest
         have hmem:(k,d2)∈ys:=by rw[Lq,←hrr];exact K1 _ K8
         have Wg:Same (j4 D Hc) (j4 D H4):=oH ((s3.trans s4).trans s5)
         have WX:Same (j4 D H') (j4 D H4):=oH (s4.trans s5)
         have Wh:∀{as:List Addr},(∀a∈as,H3 a=none)->IsT K H4 d2 w as->IsT K (j4 D H4) d2 w as:=λ{as} hn hT=>by
          refine IsT.mv (λa o e n=> ?_) _ _ _ (λa ha o e=> ?_) hT
          ·rw[kA]
           ·exact e
           ·rintro rfl;rw[Wf] at e;cases e;exact n trivial
          ·rw[kA]
           ·exact e
           ·rintro rfl;rw[hn _ ha] at T1;cases T1
         have hfresh:∀{l:List Nat},VR K (j4 D H') (λ_=> []) H3 H4 (.fr l) d2 w->∃as,IsT K H4 d2 w as/\as.Nodup/\∀a∈as,H3 a=none:=λ{l} ⟨as,h1,h2,h3⟩=>⟨as,h1,h2,λa ha=>by
          rcases h3 a ha with⟨_,_,z⟩ | z
          ·cases z
          ·exact z⟩
         refine⟨Wf,X0 (show zs.length<=100000 by omega) (by decide),ds.length - (i+1),by omega,rfl,hlt,(sc'.trans (s4.trans s5)).QJ hD,aB,by rw[Kx,X8];omega,done++[(k,d2)],Pw,hr2,by rw[Lq,←hrr,Xj];rfl,?_,λhk=> ?_⟩
         ·rw[CC,X6]
          refine gY (aA.same Wg _ _ hel) (bq ?_ bM)
          rcases hk2 _ hmem with e | e
          ·have e':k= .fr []:=e
           subst e'
           obtain⟨as,h1,h2,h3⟩:=hfresh hv
           exact IsT.toD _ _ _ (Wh h3 h1)
          ·have e':k= .base:=e
           subst e'
           exact aJ.same WX _ _ hv
         ·obtain⟨hk3,WY⟩:=IA hk
          have e':k= .fr []:=WY
          subst e'
          obtain⟨as,h1,h2,h3⟩:=hfresh hv
          obtain⟨bs,g1,g2,g3⟩:=hfr hk3
          rw[CC,X6]
          refine⟨bs++as,fP (aE.same Wg _ _ _ g1) ?_,XX.mpr ⟨g2,h2,λa ha b hb e=> ?_⟩,λa ha=> ?_⟩
          ·have:=lw (Wh h3 h1) (lu (K:=K))
           rwa [Xx] at this
          ·subst e
           obtain⟨o,eo,_⟩:=aE.live _ _ _ g1 a ha
           have:=s4 _ _ (s3 _ _ (oG _ _ eo))
           rw[h3 a hb] at this;cases this
          ·rcases Kk.mp ha with ha | ha
           ·exact g3 a ha
           ·exact(sc'.trans s4).free (h3 a ha)
       | some (.ex c),hrest=>cases hrest
       | none,hrest=>cases hrest
      | some (.ok false),hrest=>
       refine .inl ⟨false,rfl,λH3 s4=> ?_⟩
       show(if false=true then _ else _)
       rw[J6 K3]
       refine⟨ds.length - (i+1),by omega,rfl,hlt,sc'.trans s4,s4 _ _ (s3 _ _ Sa),by omega,done,rest,hrest,Lq,aA.same (oH (s3.trans s4)) _ _ hel,λhk=> ?_⟩
       obtain⟨bs,g1,g2,g3⟩:=hfr hk
       exact⟨bs,aE.same (oH (s3.trans s4)) _ _ _ g1,g2,g3⟩
      | some (.ex c),hrest=>cases hrest
      | none,hrest=>cases hrest
     ·have e:i=ds.length:=by omega
      subst e
      refine .inl ⟨io.stop Hc (r1.bs.trans sc),?_⟩
      rw[List.drop_length] at hrest
      simp only[fE] at hrest
      cases hrest
      rw[Xx] at Lq
      subst Lq
      refine q _ Hc (s0.trans sc) ?_
      rcases hk1 with e | e
      ·subst e
       obtain⟨bs,g1,g2,g3⟩:=hfr hkk
       refine⟨D :: bs,ic Sa (aE.same oG _ _ _ g1),KJ.mpr ⟨λz=> ?_,g2⟩,λa ha=> .inr ?_⟩
       ·obtain⟨o,eo,_⟩:=aE.live _ _ _ g1 D z
        rw[lB] at eo;cases eo
       ·rcases K2.mp ha with rfl | ha
        ·exact s0.free hD
        ·exact s0.free (g3 a ha)
      ·subst e
       exact zy (iV.of Sa) (aA.same oG _ _ hel)
  | some (.ex c),q=>
   rcases q with⟨k,d,e,_⟩ | ⟨c',e,q⟩
   ·cases e
   ·cases e;exact q
  | none,q=>rcases q with⟨k,d,e,_⟩ | ⟨c,e,_⟩ <;> cases e
theorem iX (hc:X.calm=true)(O:ju X scope v F ix)(hi:DI X K Ew (.Name v px) iter it)
  (zu:∀cl fp s H C,NN (cZ X scope cl (v :: F) fp s H C) ifs (QK K N0 ft)) (helt:∀cl fp s H C,DE (cZ X scope cl (v :: F) fp s H C) K N0 elt fe)
  (hs:∀x,foldedSetIterable iter X.env x=pure x:=by intro _;rfl):DE X K Ew (.ListComp elt [⟨.Name v px,iter,ifs,0⟩] scope pos) (cI it ix ft fe) :=
 (NQ hc O hi zu helt hs).imp λσ H Q q=>Hl q
theorem pE {i:Nat}{x:Str}{py spos:Pos}(hN:X.N.Nodup)(hxi:X.N[i]? =some x)(hx:Loc X.env.scope x)(hc:X.calm=true)(O:ju X scope v F ix)(hi:DI X K Ew (.Name v px) iter it)
  (zu:∀cl fp s H C,NN (cZ X scope cl (v :: F) fp s H C) ifs (QK K N0 ft)) (helt:∀cl fp s H C,DE (cZ X scope cl (v :: F) fp s H C) K N0 elt fe)
  (hsw:swapsWith (.ListComp elt [⟨.Name v px,iter,ifs,0⟩] scope pos) (some (.Name x py)) spos.line X.env=pure true)
  (hs:∀x,foldedSetIterable iter X.env x=pure x:=by intro _;rfl) (hf:X.fn x=true∨X.env.scope.names.lookup x=some .local:=by first | exact .inl rfl | exact .inr rfl | assumption) :
  DS X K Ew (.Assign [.Name x py] (.ListComp elt [⟨.Name v px,iter,ifs,0⟩] scope pos) spos) (aC i (cI it ix ft fe)) :=
 (Fp (i:=i) hN hxi hx hc O hi zu helt hsw hs hf).imp λD σ H q=>Hl (jq (g:=λx Γ=>ah (.nx (kP Γ i x.1 x.2))) q λB φ Γ k d v H1 r a q=>by
  obtain⟨B',φ',s',r'⟩:=lY r i a
  exact q B' φ' _ H1 s' r')
end
theorem CD:typeLookup (.type "list_reverseiterator") "__len__" =pure none:=by(rw[typeLookup_type,builtinLookup_eq_fast]);(kernel_rfl)
theorem Hm:typeLookup (.type "list_reverseiterator") "__length_hint__" =pure (some (.builtin "list_reverseiterator.__length_hint__")):=by(rw[typeLookup_type,builtinLookup_eq_fast]);(kernel_rfl)
section
variable {prog:Program}{w:World}{A:Around}{E:Jx}{s:Shared}{I:Addr}{fp wr:List Addr}{G:Array GenState->Array GenState->Prop}{n:Nat}{P:Nat->Value->Prop}{St:Nat->Shared->Prop}
theorem FG {Q:List Value->Shared->Prop}(W:WalksS prog w A.in1 I fp wr G n P St)(hT:∀i s,St i s->s.TypeIs (.ref I) "list_reverseiterator")(st0:St 0 s)(hfp:∀b∈fp,b < s.heap.objs.size)(hI:I∈fp)
  (hn:n<=sizeLine) (hQ:∀s' acc,Moved wr G s s'->ItemsOf P acc n->Q acc.toList s'):wpAny (model prog w) A (collect (.ref I)) Q E s:=by
 have nS:s.heap.objs.size∉fp:=λhm=>XJ _ (hfp _ hm)
 have nI:s.heap.objs.size≠I:=λe=>nS (e ▸ hI)
 unfold collect
 refine J8 (wpAny_runValue (codeAny_builtin F.entry_proto_collect ?_));rw[Around.under_plainId F.plain_proto_collect _]
 show wpAny _ A.in1 (newList [] >>=λl=>again (.builtin "list.__iadd__" ⟨[l,.ref I],[]⟩)) _ _ s
 refine J8 (J0 ?_);refine J7 ⟨plainId_quiet F.plain_list_iadd _,codeAny_builtin F.entry_list_iadd ?_⟩;rw[Around.under_plainId F.plain_list_iadd _]
 have st1:=W.frame 0 s (s.heap.push {cls:=.type "list",data:=.seq ([]:List Value).toArray}) s.toks st0 (Ku _) (λb _ o e=>K6 _ e)
 have new1:(s.heap.push {cls:=.type "list",data:=.seq ([]:List Value).toArray}).get? s.heap.objs.size=some {cls:=.type "list",data:=.seq ([]:List Value).toArray}:=(Kz _ rfl)
 have h1:Builtin.List.listSameRef (.ref s.heap.objs.size) (.ref I)=false:=by(simp[Builtin.List.listSameRef,nI])
 show wpAny _ A.in1 (Builtin.List.listExtendWith (.ref s.heap.objs.size) (.ref I) (.ref s.heap.objs.size)) _ _ _;unfold Builtin.List.listExtendWith
 refine J8 (wpAny_typeOf (hT 0 _ st1) ?_)
 rw[J6 (by rw[h1];decide)];refine J8 (W.self 0 _ _ _ st1 ?_);refine J8 (J2 ?_);unfold Builtin.List.listLengthHint
 refine J8 (Jk (hT 0 _ st1) CD ?_)
 show wpAny _ A.in1 (specialOf (Value.ref I) (Str.ofString "__length_hint__") >>=_) _ _ _;refine J8 (Jk (hT 0 _ st1) Hm ?_)
 generalize hid:("list_reverseiterator.__length_hint__":String)=id0
 wp_delta
 rw[show splitId id0=some ("list_reverseiterator","__length_hint__") from by subst hid;decide+kernel]
 subst hid
 refine J8 (wpAny_isInstance (b:=true) (hT 0 _ st1) (by rw[isSubtype_type];kernel_rfl) ?_);refine J7 ?_;rw[J6 (by decide)]
 refine J7 ⟨plainId_quiet F.plain_extend_loop _,codeAny_extend_loopS W hn _ nS _ n 0 _ _ _ rfl (Xu _) st1 new1 (ItemsOf.nil P) λs' acc' c' hm hS' hacc=> ?_⟩
 show wpAny _ A (load s.heap.objs.size >>=_) _ _ s';refine J8 (wpAny_load hS' ?_)
 exact J7 (hQ s' acc' (Moved.drop_new (o:={cls:=.type "list",data:=.seq ([]:List Value).toArray}) (tk:=s.toks) hm (Ku _)) hacc)
theorem CF {Q1:Jx}(W:WalksS prog w A.in1.in1 I fp wr G n P St)(hT:∀i s,St i s->s.TypeIs (.ref I) "list_reverseiterator")(st0:St 0 s)(hfp:∀b∈fp,b < s.heap.objs.size)(hI:I∈fp)
  (hn:n<=sizeLine) (h:∀s' acc,Moved wr G s s'->ItemsOf P acc n->Q1 (.ref s'.heap.objs.size) {s' with heap:=s'.heap.push {cls:=.type "tuple",data:=.seq acc}}) :
  codeAny (model prog w) A (.call (.builtin "tuple.__new__") ⟨[.type "tuple",.ref I],[]⟩) (wants Q1 E) s:=by
 refine codeAny_of_tree ?_
 show wpAny _ A.in1 (do checkBuiltinCall "tuple.__new__" ⟨[.type "tuple",.ref I],[]⟩;again (.builtin "tuple.__new__" ⟨[.type "tuple",.ref I],[]⟩)) _ _ s;refine J8 (wpAny_of_eq (F.newCall_tuple_1 _) (J7 ⟨plainId_quiet F.plain_tuple_new _,codeAny_builtin F.entry_tuple_new ?_⟩))
 rw[Around.under_plainId F.plain_tuple_new _];have hsub:=sub_tuple_self;have hinit:=init_tuple_lookup;have hmh:=madeHere_tuple;have hTI:=hT 0 s st0
 wp_walk using wpAny_typeOf hTI,FG W hT st0 hfp hI hn
 intro s' acc hm hacc
 show wpAny _ _ (Builtin.Tuple.tupleExact acc.toList.toArray >>=λv=>ret v) _ _ _;unfold Builtin.Tuple.tupleExact
 refine J8 (J0 ?_ (by show acc.toList.toArray.size<=sizeLine;(simp only[Array.toArray_toList]);(rw[hacc.1]);exact hn));refine J7 ?_
 have e:acc.toList.toArray=acc:=(by simp)
 rw[e];exact h s' acc hm hacc
theorem zK {Q:Jx}(W:WalksS prog w A.in1.in1.in1 I fp wr G n P St)(hT:∀i s,St i s->s.TypeIs (.ref I) "list_reverseiterator")(st0:St 0 s)(hfp:∀b∈fp,b < s.heap.objs.size)(hI:I∈fp)
  (hn:n<=sizeLine) (hQ:∀s' acc,Moved wr G s s'->ItemsOf P acc n->Q (.ref s'.heap.objs.size) {s' with heap:=s'.heap.push {cls:=.type "tuple",data:=.seq acc}}):wpAny (model prog w) A (call (.type "tuple") [.ref I]) Q E s:=by
 refine callType_codes (Q₁:=λobj s1=>s1.TypeIs obj "tuple" /\Q obj s1) F.called_tuple (F.typeCall_tuple_1 _) F.entry_object_init (CF W hT st0 hfp hI hn λs' acc hm hacc=>⟨⟨_,Kz _ rfl,rfl⟩,hQ s' acc hm hacc⟩) λobj s1 q=> ?_
 exact⟨q.1,F.args_object_init_2 obj _,object_init_meets F.called_tuple.init.lookup F.called_tuple.made (by decide) prog w A.in1 _ s1 ⟨q.1,rfl,q.2⟩⟩
end
section
variable {X:Cx}{K:Frag}{Ew:Str->Hp->Prop}{pos pos2 p p2:Pos}{a e o:Expr}{ta:TE}{fa fe:EF}{apos cpos:Pos}
def N2 (K:Frag)(ta:TE):TE:=λσ H Q=>ta σ H λx H1=>∃q ys,x= .ref q/\iV K H1 q ys/\∀t,H1 t=none->Q (.ref t) (upd H1 t (.tup ys.reverse))
theorem yE {its:List Value}{acc:Array Value}(h:ItemsOf (λi v=>its.toArray[its.toArray.size - 1 - i]? =some v) acc its.toArray.size):acc=its.reverse.toArray:=by
 apply Array.ext'
 apply List.ext_getElem?
 intro i
 have hs:acc.toList.length=its.length:=by simpa using h.1
 by_cases hi:i < its.length
 ·have hi':i < acc.toList.length:=by omega
  have e1:acc.toList[i]? =some (acc.toList[i]'hi'):=K5 hi'
  have e2:=h.2 i (acc.toList[i]'hi') (by rw[←YJ];exact e1)
  rw[e1,List.getElem?_reverse hi,←e2]
  simp
 ·rw[Xz (by omega),Xz (by simp;omega)]
theorem IB (hc:X.calm=true)(hg:Gl X "tuple")(hm:X.mg "tuple" =none)(hg2:Gl X "reversed")(hm2:X.mg "reversed" =none)(ha:PE X a ta)
  (hs:starEach [a] X.env=(false,eval a X.env) :: starEach [] X.env:=by rfl) (hpl:(backTo pos2 (starEach [] X.env)).any (·.1)=false:=by rfl)
  (hs2:starEach [.Call (.Name "reversed" p2) [a] [] pos2] X.env=(false,eval (.Call (.Name "reversed" p2) [a] [] pos2) X.env) :: starEach [] X.env:=by rfl) (pF:(backTo pos (starEach [] X.env)).any (·.1)=false:=by rfl)
  (hnil:backTo pos (starEach [] X.env)=[]:=by rfl) :
  PE X (.Call (.Name "tuple" p) [.Call (.Name "reversed" p2) [a] [] pos2] [] pos) (N2 X.K ta):=by
 intro pins s σ H Q I h
 refine wpAny_Call_Name_kw (gS I hg hm PyProof.Rows.boot_tuple ?_)
 refine PyProof.Rows.callWith_type1 ?_ hs2 pF
 rw[hs2]
 show wpAny _ _ (spliced ((false,eval (.Call (.Name "reversed" p2) [a] [] pos2) X.env) :: backTo pos (starEach [] X.env))) _ _ s
 refine Calls.spliced_cons ?_
 refine wpAny_Call_Name_kw (gS I hg2 hm2 PyProof.Rows.boot_reversed ?_)
 refine PyProof.Rows.callWith_type1 (eQ (b9 ha fz hs pos2 pins s σ H (λvs H1=>match vs with
  | [x]=>∃q ys,x= .ref q/\iV X.K H1 q ys/\∀t,H1 t=none->Q (.ref t) (upd H1 t (.tup ys.reverse))
  | _=>False) I h) λus s1 ⟨vs,H1,I1,r1,q1⟩=> ?_) hs hpl
 match vs,r1,q1 with
 | [x],r1,q1=>
  obtain⟨q,ys,rfl,hq,fin⟩:=q1
  obtain⟨u,rfl,ru⟩:=r1.one
  cases ru
  obtain⟨its,rv,pl,hz⟩:=I1.list hq
  refine call_reversed_list pl.isList ?_
  rw[hnil]
  refine Calls.spliced_nil ?_
  have hfr:=I1.fresh
  have I2:Inv X pins σ H1 {s1 with heap:=s1.heap.push (revObj q ((its.toArray.size:Int) - 1))}:=I1.kept (t':=s1.toks) λb u e=>K6 _ e
  have hit:(s1.heap.push (revObj q ((its.toArray.size:Int) - 1))).IsRevIter s1.heap.objs.size q ((its.toArray.size:Int) - 1):=⟨_,Kz _ rfl,rfl,rfl⟩
  have Vg:(s1.heap.push (revObj q ((its.toArray.size:Int) - 1))).IsList q its.toArray:=pl.isList.at λo e=>K6 _ e
  have hq1:q < s1.heap.objs.size:=let ⟨o,_,e,_⟩:=pl;KU e
  have hne:q≠s1.heap.objs.size:=X1 hq1
  have hh:X.A.in1.in1.in1.handled=none:=I1.ok.hd hc
  have hl:=rv.length
  refine zK (Walks.toS (Walks.listRev (prog:=X.prog) (w:=X.w) hh s1.heap.objs.size q hne its.toArray)) (λi s st=>st.2.1.typeIs) ⟨Xu _,by simpa using hit,Vg⟩ (λb hb=> ?_) (by simp) (by rw[Kw];omega) λs' acc hm hacc=> ?_
  ·have:b=s1.heap.objs.size∨b=q:=by simpa using hb
   show b < (s1.heap.push _).objs.size
   rw[Xw]
   rcases this with z | z
   ·rw[z];exact U2 _
   ·rw[z];exact Uy hq1
  ·rw[yE hacc]
   obtain⟨h',g',d',t',os'⟩:=s'
   obtain rfl:g'=s1.gens:=hm.gens
   obtain rfl:d'=s1.drawn:=hm.drawn
   obtain rfl:os'=s1.os:=hm.os
   have fo:=I1.sF (H':=H1) (Ku s1.heap.objs.size) hfr
   have I3:Inv X pins σ H1 {s1 with heap:=h',toks:=t'}:=Inv.turned (s:={s1 with heap:=s1.heap.push (revObj q ((its.toArray.size:Int) - 1))}) (h':=h') (t':=t') (it:=s1.heap.objs.size) I2 (λb o hb e=>hm.heap b o (by simpa using hb) e) hfr fo.2.1 fo.2.2.2.1 fo.2.2.2.2.1 fo.2.2.2.2.2
   refine⟨.ref h'.objs.size,_,I3.laid (t':=t') (a:=h'.objs.size) (o:=.tup ys.reverse) (λb u e=>K6 _ e) (Ku _) ⟨by rw[XZ];exact hz,its.reverse,rv.reverse,IsTup.new _ _⟩,rfl,fin _ I3.fresh⟩
 | [],r1,q1=>exact False.elim q1
 | _ :: _ :: _,r1,q1=>exact False.elim q1
theorem yF (hc:X.calm=true)(hg:Gl X "tuple")(hm:X.mg "tuple" =none)(hg2:Gl X "reversed")(hm2:X.mg "reversed" =none)(ha:DE X K Ew a fa)(hK:X.K=K:=by rfl)
  (hs:starEach [a] X.env=(false,eval a X.env) :: starEach [] X.env:=by rfl) (hpl:(backTo pos2 (starEach [] X.env)).any (·.1)=false:=by rfl)
  (hs2:starEach [.Call (.Name "reversed" p2) [a] [] pos2] X.env=(false,eval (.Call (.Name "reversed" p2) [a] [] pos2) X.env) :: starEach [] X.env:=by rfl) (pF:(backTo pos (starEach [] X.env)).any (·.1)=false:=by rfl)
  (hnil:backTo pos (starEach [] X.env)=[]:=by rfl) :
  DE X K Ew (.Call (.Name "tuple" p) [.Call (.Name "reversed" p2) [a] [] pos2] [] pos) (sd Cm fa):=(IB hc hg hm hg2 hm2 ha hs hpl hs2 pF hnil).imp λσ H Q q=>by
 obtain⟨B,φ,Γ,r0,q⟩:=q
 refine⟨B,φ,Γ,r0,(q.bind r0).mono λu H1 s1 ⟨k,x,e1,v1,r1,_,q1⟩=> ?_⟩
 obtain⟨z,e,q⟩:=gL (kf:=λ_=> .fr []) q1
 cases x <;> simp only[Cm] at e <;> try (cases e;done)
 split at e
 ·rename_i xs hn
  cases e
  obtain⟨p,vs,rfl,h1,h2⟩:=bg (v1.toD r1.bs)
  rw[hK]
  refine⟨p,vs,rfl,h1,λt ht=>q _ _ (s1.trans (Same.upd ht)) (VR.fresh.mpr (aX.tup ?_ (gz.of aB) (aA.same (Same.upd ht) _ _ (lU h2))))⟩
  exact a6.mpr λx hx=>a6.mp hn x (Uw.mp hx)
 ·cases e
theorem l4:jK X (binaryOp .Mult) xu:=jK.ints Qm λx y z e=>by
 cases x <;> cases y <;> simp only[xu] at e <;> try (cases e;done)
 split at e
 ·rename_i c;cases e;exact⟨_,_,rfl,rfl,c,rfl,λ_ _=>cx⟩
 ·cases e
theorem Runs.no {B H:Hp}{φ:Nat->List Addr}{Q:VK}(h:Runs K Ew B φ H none Q):False:=by
 rcases h with⟨k,d,e,_⟩ | ⟨c,e,_⟩ <;> cases e
theorem Runs.ret {B H:Hp}{φ:Nat->List Addr}{Q:VK}{k:Kd}{d:PyData}(h:Runs K Ew B φ H (ah (k,d)) Q):∀v H',Same H H'->VR K B φ H H' k d v->Q v H':=by
 rcases h with⟨k',d',e,q⟩ | ⟨c,e,_⟩
 ·cases e;exact q
 ·cases e
theorem Lr {k:Kd}(h:isNew k=true):k= .fr []:=by
 match k,h with
 | .fr [],_=>rfl
theorem Ls {B H:Hp}{φ:Nat->List Addr}{Q:VK}{k:Kd}{x y:PyData}(h:Runs K Ew B φ H (Iq k x y) Q):∃xs n,k= .fr []/\x= .list xs/\y= .int n/\
  (aq xs=true/\ -(2^63)<=n/\n < 2^63/\xs.length*n.toNat<=sizeLine)/\∀v H',Same H H'->VR K B φ H H' (.fr []) (.list (List.replicate n.toNat xs).flatten) v->Q v H':=by
 unfold Iq at h
 by_cases hk:isNew k=true
 ·rw[J5 hk] at h
  cases x <;> try (exact(Runs.no h).elim)
  rename_i xs
  replace h:Runs K Ew B φ H (Ip xs y) Q:=h
  cases y <;> try (exact(Runs.no h).elim)
  rename_i n
  by_cases hc:aq xs=true/\ -(2^63)<=n/\n < 2^63/\xs.length*n.toNat<=sizeLine
  ·rw[Ip,J5 hc] at h
   exact⟨xs,n,Lr hk,rfl,rfl,hc,h.ret⟩
  ·rw[Ip,J6 hc] at h
   exact(Runs.no h).elim
 ·rw[J6 hk] at h
  exact(Runs.no h).elim
theorem Lu {b:Expr}{fb:EF}(ha:DE X K Ew a fa)(hb:DE X K Ew b fb):DE X K Ew (.BinOp a .Mult b pos) (NR fa fb) :=
 (Pp QF ha hb).imp λσ H Q q=>uQ (g:=λx y=>Iq x.1 x.2 y.2) q λB φ Γ k x k' y u v H1 H2 r2 s1 s2 v1 v2 q=>by
  obtain⟨xs,n,rfl,rfl,rfl,⟨hn,c1,c2,c3⟩,q⟩:=Ls q
  obtain⟨as,h1,h2,h3⟩:=v1
  obtain⟨l,vs,bs,rfl,hl,ht,rfl⟩:=dE h1
  have hv:=aF (v2.toD r2.bs)
  subst hv
  have hd:=aE.toD _ _ _ ht
  exact⟨l,n,vs,rfl,rfl,hl,c1,c2,by rw[ap hd];exact c3,λp hp=>q _ _ ((s1.trans s2).trans (Same.upd hp)) (VR.fresh.mpr (aX.from (aX.lst (Cg hn _) aB (aA.same (Same.upd hp) _ _ (Ct _ hd)) hp) (s1.trans s2)))⟩
open AutoSeq1 in
theorem N3 (T:String)(hT:T= "list" ∨T= "tuple")(l b:Addr)(xs ys:Array Value)(n m:Nat)(dd:Option Addr)(sl:Array (Option Value))(h0:¬ (!xs.isEmpty && Builtin.List.listTooLong (xs.size+ys.size))=true)(h1:xs.size<=sizeLine)(h2:xs.size+ys.size<=sizeLine+1)(hlb:l≠b) :
  Meets (Builtin.«list.extend» ⟨[.ref l,.ref b],[]⟩) (λ_ R s=>s.heap.get? l=some {cls:=.type "list",data:=.seq xs n}/\s.heap.get? b=some ⟨.type T,dd,.seq ys m,sl⟩/\R (.ok (.ret Value.none)) {s with heap:=s.heap.update l (Obj.mapSeq λx=>x++ys)}) :=
 .of_wp λprog w A R s q=>by
  obtain⟨hp,g,d,tk,os⟩:=s
  obtain⟨hl,hb,q⟩:=q
  have f1:=AutoSeq1.idx_int;have f2:=AutoSeq1.sub_tuple_tuple;have f3:=AutoSeq1.sub_list_list;have f4:=AutoSeq1.sub_tuple_list;have f5:=AutoSeq1.sub_list_tuple
  have hz:(xs++ys).size<=sizeLine+1:=by(rw[Array.size_append]);exact h2
  rcases hT with rfl | rfl
  ·(wp_walk using (wpAny_updateSeq hl rfl (hz:=h1) (_hz':=hz)),wpAny_loadPart' hl,wpAny_loadPart' hb);exact⟨_,rfl,q⟩
  ·(wp_walk using (wpAny_updateSeq hl rfl (hz:=h1) (_hz':=hz)),wpAny_loadPart' hl,wpAny_loadPart' hb);exact⟨_,rfl,q⟩
def Lv (K:Frag):V->List V->Hp->VK->Prop:=λx vs H Q=>∃l b xs zs,x= .ref l/\vs=[.ref b]/\H l=some (.lst xs)/\(l=b->∃o,K.lookup b=some o)/\(iV K H b zs∨gz K H b zs)/\xs.length+zs.length<=sizeLine/\Q .non (upd H l (.lst (xs++zs)))
theorem Hn:TY X "list.extend" (Lv X.K):=by
 intro pins s σ H x vs v us Q I rx rv h
 obtain⟨l,b,xs,zs,rfl,rfl,hH,hlb,hB,hz,q⟩:=h
 replace hlb:l≠b:=λz=>by
  obtain⟨o,ho⟩:=hlb z
  have:=(I.bs b o (I.ok.mod.TL b o ho)).2
  rw[←z,hH] at this
  cases this
 cases rx
 obtain⟨u,rfl,ru⟩:=rv.one
 cases ru
 obtain⟨z,its,n,r,hl,e⟩:=I.QE hH
 have main:∀(T:String) (hT:T= "list" ∨T= "tuple") (its2:List Value) (dd:Option Addr) (sl:Array (Option Value)) (m:Nat),Vals zs its2->s.heap.get? b=some ⟨.type T,dd,.seq its2.toArray m,sl⟩->wpAny (model X.prog X.w) X.A (call (.builtin "list.extend") [.ref l,.ref b]) (EP X pins σ Q) X.xe s:=λT hT its2 dd sl m r2 e2=>by
  have hl2:=r2.length
  have hsz:its.toArray.size+its2.toArray.size<=sizeLine:=by rw[Kw,Kw];omega
  have KP:¬ (!its.toArray.isEmpty && Builtin.List.listTooLong (its.toArray.size+its2.toArray.size))=true:=λw=>by
   rw[Ce hsz,Bool.and_false] at w
   cases w
  refine call_meets F.slot_list_extend ⟨_,e,rfl⟩ F.entry_list_extend (F.args_list_extend_2 _ _) (N3 T hT l b its.toArray its2.toArray n m dd sl KP (by rw[Kw];omega) (by omega) hlb) ⟨e,e2,?_⟩
  refine⟨.non,_,I.SY (t':=s.toks) (its':=its++its2) hH e (by simp) (r.append r2) ?_,rfl,q⟩
  (rw[Kx]);omega
 rcases hB with hB | hB
 ·obtain⟨its2,r2,⟨⟨c2,d2,V9,sl2⟩,n2,ho2,hc2,_,hd2⟩,hz2⟩:=I.list hB
  simp only at hc2 hd2
  subst hc2 hd2
  exact main "list" (.inl rfl) its2 d2 sl2 n2 r2 ho2
 ·obtain⟨its2,r2,⟨⟨c2,d2,V9,sl2⟩,ho2,hc2,n2,hd2⟩,hz2⟩:=I.tuple hB
  simp only at hc2 hd2
  subst hc2 hd2
  exact main "tuple" (.inr rfl) its2 d2 sl2 n2 r2 ho2
theorem QQ {i:Nat}(ho:PE X o (pd i))(he:DE X K Ew e fe)(hK:X.K=K:=by rfl)
  (hbase:attributeBase o "extend" X.env (eval o X.env)=eval o X.env:=by rfl)
  (hfew:((backTo cpos (starEach [e] X.env)).all (λx=> !x.1) && (backToKw cpos (keywordEach [] X.env)).all (λx=>x.1.isSome)
   && decide (([e]:List Expr).length+([]:List Keyword).length+(if ([]:List Keyword).isEmpty then 0 else 1) < 30))=true:=by rfl)
  (hline:(apos.endLine==cpos.line)=true:=by rfl) (hs:starEach [e] X.env=(false,eval e X.env) :: starEach [] X.env:=by rfl) (hplain:(backTo cpos (starEach [] X.env)).any (·.1)=false:=by rfl)
  (hsw:swapsWith (.Call (.Attribute o "extend" apos) [e] [] cpos) none pos.line X.env=pure false:=by rfl) :
  DS X K Ew (.Expr (.Call (.Attribute o "extend" apos) [e] [] cpos) pos) (Fy i fe) :=
 (pZ (Ha PySem.F.plainAttrs_list PySem.F.slot_list_extend PySem.F.type_list_extend Hn ho (b9 he fz hs) hbase hfew hline hs hplain) hsw).imp λD σ H q=>by
  obtain⟨B,φ,Γ,r,q⟩:=q
  unfold Fy at q
  match hg:Γ[i]?,q with
  | some (some (true,.list xs)),q=>
   obtain⟨v,hv,hT⟩:=r.own hg
   obtain⟨l,vs,bs,rfl,hl,ht,hφ⟩:=dE hT
   refine⟨.ref l,hv,.inl ⟨rfl,vs,iV.of hl⟩,B,φ,Γ,r,?_⟩
   match hm:fe Γ,q with
   | some (.ok (k,d)),q=>
    refine .inl ⟨k,d,rfl,λy H1 s1 hy=> ?_⟩
    have r1:=r.same s1
    have hl1:=s1 _ _ hl
    have hlen:vs.length=xs.length:=df ht
    have hli:l∈φ i:=by rw[hφ];exact K8
    replace q:fB K Ew B (match Fx k d with
     | some ys=>if aq ys=true/\xs.length+ys.length<=sizeLine then ah (.nx (Γ.set i (some (true,.list (xs++ys))))) else none
     | none=>none) D:=q
    have hd:=hy.toD r1.bs
    have hnd:=r.nd i
    rw[hφ] at hnd
    have hnb:l∉bs:=(KJ.mp hnd).1
    have main:∀(b:Addr) (ws:List V) (ys:List PyData),y= .ref b->Fx k d=some ys->(l=b->∃o,K.lookup b=some o)->(iV K H1 b ws∨gz K H1 b ws)->aA K H1 ys ws->Lv X.K (.ref l) [y] H1 λ_ H1=>D.nx σ H1:=λb ws ys ey ei Vh hb hws=>by
     rw[ei] at q
     by_cases hc:aq ys=true/\xs.length+ys.length<=sizeLine
     ·replace q:fB K Ew B (ah (.nx (Γ.set i (some (true,.list (xs++ys)))))) D:=by simpa only[J5 hc] using q
      subst ey
      refine⟨l,b,vs,ws,rfl,rfl,hl1,by rw[hK];exact Vh,by rw[hK];exact hb,by rw[ap hws];omega,?_⟩
      refine q B _ σ _ (Same.refl B) (r1.chg (d:=.list (xs++ys)) (as:=l :: bs) hli hl1 trivial hv ?_ hnd (λa ha=> .inl (by rw[hφ];exact ha)) trivial)
      have h1:=aE.upd (o':=.lst (vs++ws)) hl1 trivial _ _ _ hnb (aE.same s1 _ _ _ ht)
      have h2:=aE.upd (o':=.lst (vs++ws)) hl1 trivial _ _ _ (show l∉[] by simp) (aA.toT _ _ hc.1 hws)
      have h3:=fP h1 h2
      rw[Xx] at h3
      exact ic aB h3
     ·simp only[J6 hc] at q
      exact False.elim q
    cases d <;> try (exact False.elim q)
    ·rename_i ys
     match k,hy,q,main with
     | .fr [],hy,q,main=>
      obtain⟨as,h1,h2,h3⟩:=hy
      obtain⟨b,ws,cs,ey,hb,hws,rfl⟩:=dE h1
      refine main b ws ys ey rfl (λz=> ?_) (.inl (iV.of hb)) (aE.toD _ _ _ hws)
      rcases h3 b K8 with⟨_,w,_⟩ | w
      ·cases w
      ·rw[←z,hl] at w;cases w
     | .base,hy,q,main=>
      obtain⟨b,ws,ey,hb,hws⟩:=bg (show aJ K B (.list ys) y from hy)
      refine main b ws ys ey rfl (λz=> ?_) (.inl (r1.bs.seq hb)) (aA.same r1.bs _ _ hws)
      have hB:=(r.nb i l hli).1
      rcases hb with(w | ⟨o,w⟩) | ⟨o,_,_,w,_⟩
      ·rw[←z,hB] at w;cases w
      ·rw[←z,hB] at w;cases w
      ·exact⟨o,w⟩
     | .fr (_ :: _),hy,q,main=>exact False.elim q
     | .any,hy,q,main=>exact False.elim q
    ·rename_i ys
     obtain⟨b,ws,ey,hb,hws⟩:=aM hd
     refine main b ws ys ey rfl (λz=> ?_) (.inr hb) hws
     rcases hb with(w | ⟨o,w⟩) | ⟨o,_,_,w,_⟩
     ·rw[←z,hl1] at w;cases w
     ·rw[←z,hl1] at w;cases w
     ·exact⟨o,w⟩
   | some (.ex c),q=>exact .inr ⟨c,rfl,q⟩
   | none,q=>cases q
  | some (some (true,.none)),q|some (some (true,.bool _)),q|some (some (true,.int _)),q|some (some (true,.str _)),q|some (some (true,.tuple _)),q|some (some (true,.dict _)),q|some (some (false,_)),q|some none,q|none,q=>cases q
end
section
variable {X:Cx}{K:Frag}{Ew:Str->Hp->Prop}{pos pos2 p p2:Pos}{a e o j:Expr}{ta:TE}{fa fe fj:EF}{apos cpos:Pos}
theorem zL {i:Nat}(ho:PE X o (pd i))(hj:DE X K Ew j fj)(he:DE X K Ew e fe)
  (ha:∀v,assign (.Subscript o j p) X.env v=(do
   let ov←holding [v] (eval o X.env)
   let iv←holding [v,ov] (eval j X.env)
   standAt p
   holding [v,ov,iv] (setItem ov iv v)
   release [v,ov,iv] []):=by intro _;rfl)
  (hs:swapsWithSole [.Subscript o j p] e pos.line X.env=pure false:=by rfl) (hw:swappedStores [.Subscript o j p] e X.env=pure none:=by rfl)
  (h1:(assignEach [.Subscript o j p] X.env).map (·.2)=[assign (.Subscript o j p) X.env]:=by rfl):DS X K Ew (.Assign [.Subscript o j p] e pos) (Ir i fj fe) :=
 (zl he (Fe ho hj set_list ha) hs hw h1).imp λD σ H q=>
  jq (g:=λx Γ=>match Γ[i]? with
   | some (some (true,.list xs))=>ar (fj Γ) λy=>match y.2 with
    | .int n=>match Y.xq xs.length n with
     | some m=>if bL x.2 && aq xs then ah (.nx (Γ.set i (some (true,.list (xs.set m x.2))))) else none
     | none=>none
    | _=>none
   | _=>none) q λB φ Γ k d y H1 r av q=>by
   match hg:Γ[i]?,q with
   | some (some (true,.list xs)),q=>
    obtain⟨v,hv,hT⟩:=r.own hg
    obtain⟨l,vs,bs,rfl,hl,ht,hφ⟩:=dE hT
    have hli:l∈φ i:=by rw[hφ];exact K8
    refine⟨.ref l,hv,B,φ,Γ,r,?_⟩
    match hm:fj Γ,q with
    | some (.ok (k',d')),q=>
     refine .inl ⟨k',d',rfl,λw H2 s2 hw=> ?_⟩
     have r2:=r.same s2
     cases d' <;> try (exact False.elim q)
     rename_i n
     have:=aF (hw.toD r2.bs)
     subst this
     replace q:fB K Ew B (match Y.xq xs.length n with
      | some m=>if bL d && aq xs then ah (.nx (Γ.set i (some (true,.list (xs.set m d))))) else none
      | none=>none) D:=q
     match hix:Y.xq xs.length n,q with
     | some m,q=>
      replace q:fB K Ew B (if bL d && aq xs then ah (.nx (Γ.set i (some (true,.list (xs.set m d))))) else none) D:=q
      by_cases hc:(bL d && aq xs)=true
      ·rw[J5 hc] at q
       have hc':bL d=true/\aq xs=true:=by simpa using hc
       have hlen:=df ht
       refine⟨l,vs,n,m,rfl,rfl,s2 _ _ hl,by rw[hlen];exact hix,?_⟩
       have hbs:bs=[]:=aE.nil _ _ _ hc'.2 ht
       subst hbs
       have hds:=aA.same s2 _ _ (aE.toD _ _ _ ht)
       have hdd:=aJ.same s2 _ _ (av.toD r.bs)
       have hns:aq (xs.set m d)=true:=a6.mpr λx hx=>by
        rcases List.mem_or_eq_of_mem_set hx with z | z
        ·exact a6.mp hc'.2 x z
        ·rw[z];exact hc'.1
       have hnew:=aE.upd (o':=.lst (vs.set m y)) (s2 _ _ hl) trivial _ _ _ (show l∉[] by simp) (aA.toT _ _ hns (Cr m hds hdd))
       exact q B _ σ _ (Same.refl B) (r2.chg (d:=.list (xs.set m d)) (as:=[l]) hli (s2 _ _ hl) trivial hv (ic aB hnew) (KJ.mpr ⟨by simp,X3⟩) (λa ha=> .inl (by rw[K7.mp ha];exact hli)) trivial)
      ·rw[J6 hc] at q
       exact False.elim q
     | none,q=>cases q
    | some (.ex c),q=>exact .inr ⟨c,rfl,q⟩
    | none,q=>cases q
   | some (some (true,.none)),q|some (some (true,.bool _)),q|some (some (true,.int _)),q|some (some (true,.str _)),q|some (some (true,.tuple _)),q|some (some (true,.dict _)),q|some (some (false,_)),q|some none,q|none,q=>cases q
end
theorem Lw {X:Cx}{K:Frag}{Ew:Str->Hp->Prop}{st:Stmt}:DS X K Ew st Ld:=Kt.imp λD σ H q=>by
 obtain⟨B,φ,Γ,r,q⟩:=q
 exact False.elim q
theorem gC {P:Program}{w:World}{K:Frag}{mg:Str->Option Value}{base:Heap}{x qual:Str}{st:Stmt}{f:Addr}{fd:FuncData}{N ps:List Str}(k n m:Nat){fb:SF}(hn:N.length=n)(hm:ps.length=m)(F:ll K x qual st f fd)(S:aL N ps (ag st))
  (hbody:∀(cdv:Value) (A:Around) (outer:List Env) (s:Shared) (H:Hp) (E:XK),hX k (A.deeper (envOfC qual (ag st) s.heap.objs.size f cdv))->
   Km (zm kx P w K mg base N qual (ag st) f cdv A outer s H E).Kr K (λ_ _=>False) (aH st) fb):cu P w K mg base kx (k+1) f fd ps (lZ K m (eS n fb)):=by
 subst hn hm
 exact F.WV S hbody
theorem Lx {K:Frag}{H:Hp}{a:Addr}{ns:List Int}{F:FF}(hS:iV K H a (ns.map V.int))(h:∃o,F [.list (ns.map PyData.int)]=some (.ok (o,.bool true))):lZ K 1 F [.ref a] H (λv _=>v= .bl true) λ_ _ _=>False:=by
 obtain⟨o,h⟩:=h
 refine⟨[.list (ns.map PyData.int)],rfl,bq (zy hS (q9 ns)) bM,?_⟩
 rw[h]
 intro v H' s r
 unfold RV at r
 cases o with
 | true=>rw[J5 rfl] at r;obtain⟨as,h1,_⟩:=r;exact jT (IsT.toD _ _ _ h1)
 | false=>rw[J6 K3] at r;exact jT r
section
variable {prog:Program}{w:World}{A:Around}{E:Jx}{s:Shared}
theorem oX {t sl:Addr}{items:Array Value}{vl vu:Value}{lo hi:Option Int}{Q:Jx}(ht:IsTup s.heap t items)(hs:s.heap.IsSliceOf sl vl vu .none)(pl:IsPart vl lo)(pu:IsPart vu hi)
  (hw:HT.gq items.size 0 lo=0/\HT.gq items.size items.size hi=items.size) (h:Q (.ref t) s):wpAny (model prog w) A (getItem (.ref t) (.ref sl)) Q E s:=by
 obtain⟨os,hos,hcs,hds⟩:=id hs
 have hTs:s.TypeIs (.ref sl) "slice":=⟨os,hos,hcs⟩
 unfold getItem
 try with_reducible refine J2 ?_
 first | refine J8 (J7 ?_) | skip
 refine J8 (wpAny_sequenceKey ht.typeIs (by decide) ?_)
 refine J8 (wpAny_callSpecial?_slot (name:=Str.ofString "__getitem__") ht.typeIs PyProof.Rows.slot_tuple_getitem
  (J1 PyProof.Rows.slot_tuple_getitem ht.typeIs entry_tuple_getitem ?_ (args_tuple_getitem _ _)))
 show wpAny _ _ (Builtin.Tuple.tupleItemsOf (.ref t) >>=_) _ _ s
 refine J8 (tupleItemsOf_ ht ?_)
 refine J8 (wpAny_typeOf hTs ?_)
 rw[J5 (by decide)]
 refine J8 (HT.lr hs pl pu ?_)
 have hyes:(((HT.gq items.size 0 lo:Nat):Int)==0 && (1:Int)==1 && (HT.gq items.size items.size hi - HT.gq items.size 0 lo)==items.size)=true:=by
  rw[hw.1,hw.2];simp
 show wpAny _ _ (if (((HT.gq items.size 0 lo:Nat):Int)==0 && (1:Int)==1 && (HT.gq items.size items.size hi - HT.gq items.size 0 lo)==items.size)=true then _ else _) _ _ s
 rw[J5 hyes]
 unfold Builtin.Tuple.tupleIsExact
 refine J8 ?_
 first
  | exact J8 (wpAny_typeOf ht.typeIs (J7 (J8 (wpAny_rule (J7 ⟨_,rfl,J7 h⟩)))))
  | (
    refine J8 (wpAny_typeOf ht.typeIs (J7 ?_))
    rw[J5 (by decide)]
    exact J8 (wpAny_rule (J7 ⟨_,rfl,J7 h⟩)))
end
theorem CG {K:Frag}{H:Hp}{ds:List PyData}{vs:List V}(h:aA K H ds vs)(lo hi:Option Int):aA K H (cutD ds lo hi) (Cd vs lo hi):=by
 have e:cutD ds lo hi=(ds.drop (HT.gq ds.length 0 lo)).take (HT.gq ds.length ds.length hi - HT.gq ds.length 0 lo):=rfl
 rw[e]
 unfold Cd
 rw[ap h]
 exact yx _ (yy _ h)
theorem uV {ds:List PyData}(h:aq ds=true)(lo hi:Option Int):aq (cutD ds lo hi)=true:=a6.mpr λx hx=>a6.mp h x (List.mem_of_mem_drop (List.mem_of_mem_take hx))
section
variable {X:Cx}{K:Frag}{Ew:Str->Hp->Prop}{pos p2:Pos}{e:Expr}{fe:EF}{lo hi st:Option Expr}{fl fh fs:Option EF}
def Vi (K:Frag):V->Option Int->Option Int->Hp->VK->Prop:=λx lo hi H Q=>∃d z,aJ K H d x/\S2 d lo hi=some z/\∀v H',Same H H'->aX K H H' z v->Q v H'
theorem Vj:Pr X (Vi X.K):=by
 intro pins s σ H x v vl vu lo hi sl Q I rx hs pl pu h
 obtain⟨d,z,hd,hz,q⟩:=h
 cases d <;> simp only[S2] at hz <;> try (cases hz;done)
 ·rename_i ds
  split at hz
  ·rename_i hn
   cases hz
   obtain⟨a,xs,rfl,hx,hi'⟩:=bg hd
   exact NJ pins s σ H _ v vl vu lo hi sl Q I rx hs pl pu ⟨a,xs,rfl,hx,λp hp=>q _ _ (Same.upd hp) (aX.lst (uV hn lo hi) aB (aA.same (Same.upd hp) _ _ (CG hi' lo hi)) hp)⟩
  ·cases hz
 ·rename_i ds
  split at hz
  ·rename_i hn
   cases hz
   obtain⟨a,xs,rfl,hx,hi'⟩:=aM hd
   by_cases hw:HT.gq xs.length 0 lo=0/\HT.gq xs.length xs.length hi=xs.length
   ·cases rx
    obtain⟨its,r,ht,hz⟩:=I.tuple hx
    have hlen:its.toArray.size=xs.length:=by rw[Kw];exact r.length.symm
    refine⟨"tuple",_,PyProof.Rows.slot_tuple_getitem.lookup,ht.typeIs,?_⟩
    refine oX ht hs pl pu (by rw[hlen];exact hw) ⟨.ref a,H,I,rfl,q _ H (Same.refl H) (aX.oC (by rw[bL];exact uV hn lo hi) ?_)⟩
    have e:cutD ds lo hi=ds:=by
     have e:cutD ds lo hi=(ds.drop (HT.gq ds.length 0 lo)).take (HT.gq ds.length ds.length hi - HT.gq ds.length 0 lo):=rfl
     rw[e,←ap hi',hw.1,hw.2,List.drop_zero,Nat.sub_zero]
     exact List.take_of_length_le (by rw[ap hi'];exact Ku _)
    rw[e]
    exact hd
   ·exact Qw pins s σ H _ v vl vu lo hi sl Q I rx hs pl pu ⟨a,xs,rfl,hx,hw,λp hp=>q _ _ (Same.upd hp) (aX.tup (uV hn lo hi) (gz.of aB) (aA.same (Same.upd hp) _ _ (CG hi' lo hi)))⟩
  ·cases hz
def tO (K:Frag)(Ew:Str->Hp->Prop)(f:Option EF):TO:=λσ H Q=>∃B φ Γ,Rep K B φ Γ σ H/\((∃o,oE f Γ=some (.ok o)/\∀H',Same H H'->Q o H')∨(∃c,oE f Γ=some (.ex c)/\∀H',Same B H'->Ew c H'))
def T2 (X:Cx)(K:Frag)(Ew:Str->Hp->Prop)(e:Option Expr)(f:Option EF):Prop:=PO X e (tO K Ew f)
theorem PO.imp {X:Cx}{e:Option Expr}{t t':TO}(h:PO X e t)(i:∀σ H Q,t' σ H Q->t σ H Q):PO X e t':=λpins s σ H Q I q=>h pins s σ H Q I (i σ H Q q)
theorem uW:T2 X K Ew none none:=NF.imp λσ H Q q=>by
 obtain⟨B,φ,Γ,r,q⟩:=q
 rcases q with⟨o,e,q⟩ | ⟨c,e,_⟩
 ·cases e;exact q H (Same.refl H)
 ·cases e
theorem uX (he:DE X K Ew e fe):T2 X K Ew (some e) (some fe):=(NG he).imp λσ H Q q=>by
 obtain⟨B,φ,Γ,r,q⟩:=q
 refine⟨B,φ,Γ,r,?_⟩
 have e0:oE (some fe) Γ=ar (fe Γ) λx=>oI x.2:=rfl
 rw[e0] at q
 match hm:fe Γ,q with
 | some (.ok (k,d)),q=>
  refine .inl ⟨k,d,rfl,λv H' s hv=> ?_⟩
  cases d <;> try (rcases q with⟨o,e,_⟩ | ⟨c,e,_⟩ <;> cases e;done)
  rename_i n
  have:=aF (hv.toD (r.bs.trans s))
  subst this
  rcases q with⟨o,e,q⟩ | ⟨c,e,_⟩
  ·cases e;exact⟨n,rfl,q H' s⟩
  ·cases e
 | some (.ex c),q=>
  rcases q with⟨o,e,q⟩ | ⟨c',e,q⟩
  ·cases e
  ·cases e;exact .inr ⟨c,rfl,q⟩
 | none,q=>rcases q with⟨o,e,_⟩ | ⟨c,e,_⟩ <;> cases e
theorem Ho {fo:Option EF}{B H:Hp}{φ:Nat->List Addr}{Γ:bD}{σ:St}{g:Option Int->M (Kd×PyData)}{Q:VK}{R:Option Int->Hp->Prop}(r:Rep K B φ Γ σ H)(h:Runs K Ew B φ H (ar (oE fo Γ) g) Q)
  (i:∀o H1,Same H H1->Rep K B φ Γ σ H1->Runs K Ew B φ H1 (g o) Q->R o H1):tO K Ew fo σ H R:=by
 refine⟨B,φ,Γ,r,?_⟩
 match hm:oE fo Γ,h with
 | some (.ok o),h=>exact .inl ⟨o,rfl,λH1 s=>i o H1 s (r.same s) (Runs.later h s)⟩
 | some (.ex c),h=>
  rcases h with⟨k,d,e,_⟩ | ⟨c',e,h⟩
  ·cases e
  ·cases e;exact .inr ⟨c,rfl,h⟩
 | none,h=>exact(Runs.no h).elim
theorem Ly (he:DE X K Ew e fe)(hl:T2 X K Ew lo fl)(hu:T2 X K Ew hi fh)(hK:X.K=K:=by rfl):DE X K Ew (.Subscript e (.Slice lo hi none p2) pos) (Lf fe fl fh):=(KN Vj he hl hu).imp λσ H Q q=>by
 obtain⟨B,φ,Γ,r,q⟩:=q
 refine⟨B,φ,Γ,r,(q.bind r).mono λu H1 s1 ⟨k,x,e1,v1,r1,_,q1⟩=> ?_⟩
 refine Ho r1 (q1.later s1) λl H2 s2 r2 q2=>Ho r2 q2 λh H3 s3 r3 q3=> ?_
 obtain⟨z,ez,q⟩:=gL (kf:=λ_=> .fr []) q3
 rw[hK]
 exact⟨x,z,aJ.same (s2.trans s3) _ _ (v1.toD r1.bs),ez,λv H' s f=>q v H' s (VR.fresh.mpr f)⟩
end
theorem Hq:Manifest.owners.lookup (String.ofList ['d','e','s','r','e','v','e','r'].reverse)=some Manifest.sig_reversed:=by(kernel_rfl)
theorem gD:Slot "reversed" "__next__" "reversed.__next__" :=
 .of (owner:="reversed") (n:="__next__") (by(rw[typeLookup_type,builtinLookup_eq_fast]);kernel_rfl) (by decide+kernel) (by decide+kernel) (by decide+kernel) (by first | exact .inl (by decide+kernel) | exact .inr (by decide+kernel)) (by(rw[isSubtype_type]);kernel_rfl)
theorem qa:entryFor table "reversed.__next__" =some Builtin.«reversed.__next__»:=entryFor_of_tree (by(kernel_rfl))
theorem qb (a:Value):argsOk "reversed.__next__" ⟨[a],[]⟩:=by
 unfold argsOk;rw[signature?_of (id:="reversed.__next__") (n:=['_','_','t','x','e','n','_','_']) (o:=['d','e','s','r','e','v','e','r']) (by(kernel_rfl)) Hq];(kernel_rfl)
theorem o0:Slot "reversed" "__iter__" "reversed.__iter__" :=
 .of (owner:="reversed") (n:="__iter__") (by(rw[typeLookup_type,builtinLookup_eq_fast]);kernel_rfl) (by decide+kernel) (by decide+kernel) (by decide+kernel) (by first | exact .inl (by decide+kernel) | exact .inr (by decide+kernel)) (by(rw[isSubtype_type]);kernel_rfl)
theorem zM (a:Value):argsOk "reversed.__iter__" ⟨[a],[]⟩:=by
 unfold argsOk;rw[signature?_of (id:="reversed.__iter__") (n:=['_','_','r','e','t','i','_','_']) (o:=['d','e','s','r','e','v','e','r']) (by(kernel_rfl)) Hq];(kernel_rfl)
theorem zN:entryFor table "reversed.__iter__" =some Builtin.«dict_keyiterator.__iter__» :=
 entryFor_alias (id':="dict_keyiterator.__iter__") (by(kernel_rfl)) (by first | rfl | decide+kernel | (unfold String.splitOn;simp+decide [String.splitOnAux])) (by decide+kernel) (by(kernel_rfl))
theorem IC:typeLookup (.type "tuple") "__reversed__" =pure none:=by(rw[typeLookup_type,builtinLookup_eq_fast]);(kernel_rfl)
theorem zO:isSubtype (.type "tuple") (.type "dict")=pure false:=by(rw[isSubtype_type]);(kernel_rfl)
def re (t:Addr)(i:Int):Obj:={cls:=.type "reversed",data:=.fields #[.ref t,rawInt i]}
def sf (h:Heap)(a t:Addr)(i:Int):Prop:=h.get? a=some (re t i)
section
variable {prog:Program}{w:World}{A:Around}{E:Jx}{s:Shared}
theorem zP {t:Addr}{items:Array Value}{Q1:Jx}(ht:IsTup s.heap t items)(hz:items.size<=sizeLine)
  (h:∀tk,Q1 (.ref s.heap.objs.size) {s with heap:=s.heap.push (re t ((items.size:Int) - 1)),toks:=tk}) :
  codeAny (model prog w) A (.call (.builtin "reversed.__new__") ⟨[.type "reversed",.ref t],[]⟩) (wants Q1 E) s:=by
 refine codeAny_of_tree ?_
 show wpAny _ A.in1 (do checkBuiltinCall "reversed.__new__" ⟨[.type "reversed",.ref t],[]⟩;again (.builtin "reversed.__new__" ⟨[.type "reversed",.ref t],[]⟩)) _ _ s;refine J8 (wpAny_of_eq (F.newCall_reversed_1 _) (J7 ⟨plainId_quiet F.plain_reversed_new _,codeAny_builtin F.entry_reversed_new ?_⟩))
 rw[Around.under_plainId F.plain_reversed_new _];unfold Builtin.«reversed.__new__»
 refine J8 (wpAny_of_eq (newClass_reversed _) ?_)
 try dsimp only
 refine J8 (wpAny_of_eq (a:=()) (by first | rfl | kernel_rfl) ?_);refine J8 (wpAny_of_eq (a:=()) (by first | rfl | kernel_rfl) ?_)
 try dsimp only
 refine J8 (Jk ht.typeIs IC ?_)
 have hT:=ht.typeIs
 have hd:=zO
 have hget:=PyProof.Rows.slot_tuple_getitem.lookup
 show wpAny _ _ (_ >>=_) _ _ _
 refine J8 ?_
 wp_delta
 refine J8 (wpAny_isInstance hT hd ?_);rw[J6 K3]
 refine J8 (Jk hT hget ?_)
 try dsimp only
 rw[J5 (by decide+kernel)]
 refine J7 ?_
 rw[J6 (by decide)]
 have Vk:=m7
 refine J8 (len_tuple ht (by omega) ?_)
 refine J8 (wpAny_of_eq (a:=some ((items.size:Nat):Int)) (by first | rfl | kernel_rfl) ?_)
 try dsimp only
 refine J8 ?_
 wp_delta
 exact J0 (J7 (h _))
theorem pG:TypeCalled "reversed" "reversed.__new__" "object.__init__" :=
 ⟨by decide+kernel,by decide+kernel,⟨_,_,F.mro_reversed⟩,F.made_reversed,by decide+kernel,by(rw[isSubtype_type]);kernel_rfl,.of (owner:="object") (n:="__init__") (by(rw[typeLookup_type,builtinLookup_eq_fast]);kernel_rfl) (by decide+kernel) (by decide+kernel) (by decide+kernel) (by first | exact .inl (by decide+kernel) | exact .inr (by decide+kernel)) (by(rw[isSubtype_type]);kernel_rfl)⟩
theorem Lz {t:Addr}{items:Array Value}{Q:Jx}(ht:IsTup s.heap t items)(hz:items.size<=sizeLine)
  (h:∀tk,Q (.ref s.heap.objs.size) {s with heap:=s.heap.push (re t ((items.size:Int) - 1)),toks:=tk}):wpAny (model prog w) A (call (.type "reversed") [.ref t]) Q E s:=by
 refine callType_codes (Q₁:=λobj s1=>s1.TypeIs obj "reversed" /\Q obj s1) pG (F.typeCall_reversed_1 _) F.entry_object_init (zP ht hz λtk=>⟨⟨_,Kz _ rfl,rfl⟩,h tk⟩) λobj s1 q=> ?_
 exact⟨q.1,F.args_object_init_2 obj _,object_init_meets pG.init.lookup pG.made (by decide) prog w A.in1 _ s1 ⟨q.1,rfl,q.2⟩⟩
theorem gT {it t:Addr}{i:Int}(h:sf s.heap it t i):s.TypeIs (.ref it) "reversed":=⟨_,h,rfl⟩
theorem LA {it t:Addr}{i:Nat}{items:Array Value}{x:Value}{Q:Option Value->Shared->Prop}(hit:sf s.heap it t (i:Int))(ht:IsTup s.heap t items)(hz:items.size<=sizeLine)(hx:items[i]? =some x)
  (hQ:∀h' tk,sf h' it t ((i:Int) - 1)->Heap.SameBut it s.heap h'->Q (some x) {s with heap:=h',toks:=tk}):wpAny (model prog w) A (pyNext (.ref it)) Q E s:=by
 unfold pyNext
 refine J8 (wpAny_attempt (wpAny_callSpecial?_slot (name:=Str.ofString "__next__") (gT hit) gD (J1 gD (gT hit) qa ?_ (qb _))))
 unfold Builtin.«reversed.__next__»
 refine J8 (wpAny_of_eq (a:=(Value.ref it,[])) rfl ?_)
 try dsimp only
 refine J8 (wpAny_field hit rfl (x:=.ref t) rfl ?_)
 refine J8 (wpAny_field hit rfl (x:=rawInt (i:Int)) rfl ?_)
 show wpAny _ _ (if (i:Int) < 0 then _ else _) _ _ _
 rw[J6 (by omega)]
 refine J8 (Jk ht.typeIs PyProof.Rows.slot_tuple_getitem.lookup ?_)
 rw[J6 (by decide)]
 refine J8 (wpAny_mkInt ?_)
 have hi:i < items.size:=(Array.getElem?_eq_some_iff.mp hx).1
 have Vk:=m7
 have hg:wpAny (model prog w) A.in1 (getItem (.ref t) (.int (i:Int) s.toks)) (λr s'=>r=x/\s'={s with toks:=s.toks+1}) (λ_ _=>False) {s with toks:=s.toks+1} :=
  getItem_tuple (k:=(i:Int)) (j:=i) ht (by omega) (by omega) (seqIndex_of (by omega) (by omega)) hx ⟨rfl,rfl⟩
 refine J8 (wpAny_attempt (wpAny_mono hg (λr s' q=> ?_) λ_ _ q=>False.elim q))
 obtain⟨rfl,rfl⟩:=q
 refine J8 (wpAny_field hit rfl (x:=rawInt (i:Int)) rfl ?_)
 show wpAny _ _ (setField (.ref it) 1 (rawInt ((i:Int) - 1)) >>=_) _ _ _
 refine J8 (wpAny_setField hit rfl (by simp) ?_)
 refine J7 ⟨_,rfl,J7 (hQ _ _ ?_ (Heap.SameBut.update ..))⟩
 exact Xk (Obj.mapFields (·.setIfInBounds 1 (rawInt ((i:Int) - 1)))) hit rfl
theorem N4 {it t:Addr}{Q:Option Value->Shared->Prop}(hh:A.handled=none)(hit:sf s.heap it t (-1))
  (hQ:∀h' tk,Heap.ExtBut it s.heap h'->Q none {s with heap:=h',toks:=tk}):wpAny (model prog w) A (pyNext (.ref it)) Q E s:=by
 unfold pyNext
 refine J8 (wpAny_attempt (wpAny_callSpecial?_slot (name:=Str.ofString "__next__") (gT hit) gD (J1 gD (gT hit) qa ?_ (qb _))))
 unfold Builtin.«reversed.__next__»
 refine J8 (wpAny_of_eq (a:=(Value.ref it,[])) rfl ?_)
 try dsimp only
 refine J8 (wpAny_field hit rfl (x:=.ref t) rfl ?_)
 refine J8 (wpAny_field hit rfl (x:=rawInt (-1)) rfl ?_)
 show wpAny _ _ (if (-1:Int) < 0 then _ else _) _ _ _
 rw[J5 (by decide)]
 refine J8 (wpAny_rule ?_)
 refine J8 ?_
 wp_delta
 refine J8 (wpAny_setField hit rfl (by simp) ?_)
 have hit2:=Xk (Obj.mapFields (·.setIfInBounds 1 (rawInt (-1)))) hit rfl
 refine wpAny_setField hit2 rfl (by simp) ?_
 refine J8 ?_
 (first | show wpAny _ _ (newExc (.type "StopIteration") [] >>=_) _ _ _ | (wp_delta;show wpAny _ _ (newExc (.type "StopIteration") [] >>=_) _ _ _))
 refine J8 ?_;simp only[newExc,newTuple];refine J8 (J0 ?_ (by size_fits));refine J8 (m:=firstArgMember _ _) (wpAny_of_eq (a:=Value.none) (by first | rfl | (simp only[firstArgMember];rfl)) ?_);refine J0 ?_ (by size_fits)
 simp only[raiseNew];refine J8 (wpAny_handled ?_);(first | rw[show A.in1.handled=none from hh] | rw[hh])
 refine J8 (J7 (wpAny_throw ?_));refine J8 (wpAny_isInstance (T:="StopIteration") (b:=true) ⟨_,Kz _ rfl,rfl⟩ isSubtype_stop ?_)
 exact J7 (hQ _ _ ((((Heap.SameBut.update ..).extBut.trans (Heap.SameBut.update ..).extBut).push _).push _))
theorem CH {it t:Addr}{i:Int}{Q:Jx}(hit:sf s.heap it t i)(h:Q (.ref it) s):wpAny (model prog w) A (pyIter (.ref it)) Q E s:=by
 refine wpAny_pyIter_slot (gT hit) o0 (J1 o0 (gT hit) zN ?_ (zM _))
 show wpAny _ _ (ret (.ref it)) _ _ s;exact J7 ⟨_,rfl,"reversed",_,gT hit,gD.lookup,h⟩
end
def T3 (K:Frag)(a:Addr)(n:Nat):It :=
 ⟨λi H=>i < n/\∃xs,gz K H a xs/\xs.length=n,λi H x H'=>H'=H/\∀xs,gz K H a xs->xs[n - 1 - i]? =some x,λi _=>n<=i⟩
theorem LB {P:Program}{w:World}{K:Frag}{tg:Expr}(a it:Addr)(n:Nat):Turn P w K tg (T3 K a n) [it] it (λi h=>i<=n/\sf h it a ((n:Int) - 1 - i)) where
 mem:=by simp
 obj:=λi h st b hb=>by
  have z:b=it:=by simpa using hb
  subst z
  exact⟨_,st.2,λv z=>by cases z⟩
 keep:=λi h h' st k=>⟨st.1,k it (by simp) _ st.2⟩
 item:=by
  intro X hP hw hK hc i pins s σ H E I hf st hg;subst hP hw hK
  obtain⟨hi,xs,hq,hl⟩:=hg
  obtain⟨its,rv,p,hz⟩:=I.tuple hq
  have hx:xs[n - 1 - i]? =some (xs[n - 1 - i]'(by omega)):=K5 _
  obtain⟨u,hu,ru⟩:=rv.get hx
  obtain⟨f0,f1,f2,f3,f4,f5⟩:=hf it (by simp)
  have hlen:=rv.length
  have hst:=st.2
  rw[show(n:Int) - 1 - (i:Int)=((n - 1 - i:Nat):Int) by omega] at hst
  refine LA (i:=n - 1 - i) (x:=u) hst p (by rw[Kw];omega) (by simpa using hu) λh' tk st' sb=> ?_
  have I1:Inv X pins σ H {s with heap:=h',toks:=tk}:=I.turned (t':=tk) (λb o hb e=>(sb.2 b hb).trans e) f0 f1 f3 f4 f5
  rw[show((n - 1 - i:Nat):Int) - 1=(n:Int) - 1 - ((i+1:Nat):Int) by omega] at st'
  exact⟨u,rfl,G3 (s:={s with heap:=h',toks:=tk}) st' rfl rfl (by decide) ⟨_,H,I1,ru,⟨rfl,λys hy=>by rw[I.qY hy hq];exact hx⟩,⟨by omega,st'⟩,λb hb=>(hf b hb).1⟩⟩
 done:=by
  intro X hP hw hK hc i pins s σ H E I hf st hg;subst hP hw hK
  have hi:n<=i:=hg
  obtain⟨f0,f1,f2,f3,f4,f5⟩:=hf it (by simp)
  have hst:=st.2
  rw[show(n:Int) - 1 - (i:Int)= -1 by have:=st.1;omega] at hst
  exact N4 (I.ok.hd hc) hst λh' tk eb=>⟨rfl,I.turned (t':=tk) (λb o hb e=>eb b o hb e) f0 f1 f3 f4 f5⟩
 self:=λA i s Q E st h=>CH st.2 h
section
variable {X:Cx}{K:Frag}{Ew:Str->Hp->Prop}{pos p:Pos}{tg a:Expr}{ta:TE}{fa:EF}
def Vl (K:Frag)(ta:TE):TI:=λσ H R=>ta σ H λx H1=>∃q xs,x= .ref q/\gz K H1 q xs/\R (T3 K q xs.length) H1
theorem QR (hg:Gl X "reversed")(hm:X.mg "reversed" =none)(ha:PE X a ta)(hs:starEach [a] X.env=[(false,eval a X.env)]:=by rfl):PI X tg (.Call (.Name "reversed" p) [a] [] pos) (Vl X.K ta):=by
 intro pins s σ H R I h
 refine Call_ (gS I hg hm PyProof.Rows.boot_reversed (PyProof.Rows.callWith_type1 (eQ (b9 ha fz hs pos pins s σ H (λvs H1=>match vs with
  | [x]=>∃q xs,x= .ref q/\gz X.K H1 q xs/\R (T3 X.K q xs.length) H1
  | _=>False) I h) λus s1 ⟨vs,H1,I1,r1,q1⟩=> ?_) hs rfl))
 match vs,r1,q1 with
 | [x],r1,q1=>
  obtain⟨q,xs,rfl,hq,fin⟩:=q1
  obtain⟨u,rfl,ru⟩:=r1.one
  cases ru
  obtain⟨its,rv,pl,hz⟩:=I1.tuple hq
  have hl:=rv.length
  refine Lz pl (by rw[Kw];omega) λtk=> ?_
  have I2:Inv X pins σ H1 {s1 with heap:=s1.heap.push (re q ((its.toArray.size:Int) - 1)),toks:=tk}:=I1.kept (t':=tk) λb u e=>K6 _ e
  have hit:sf (s1.heap.push (re q ((its.toArray.size:Int) - 1))) s1.heap.objs.size q ((its.toArray.size:Int) - 1):=Kz _ rfl
  refine CH hit ⟨s1.heap.objs.size,[s1.heap.objs.size],_,_,H1,rfl,I2,LB q _ xs.length,⟨Xu _,?_⟩,λb hb=> ?_,fin⟩
  ·have e:((its.toArray.size:Int) - 1)=(xs.length:Int) - 1 - ((0:Nat):Int):=by rw[Kw,←hl];simp
   exact(congrArg (λz=>sf (s1.heap.push (re q ((its.toArray.size:Int) - 1))) s1.heap.objs.size q z) e).mp hit
  ·have e:b=s1.heap.objs.size:=by simpa using hb
   subst e
   exact I1.sF (Ku _) I1.fresh
 | [],r1,q1=>exact False.elim q1
 | _ :: _ :: _,r1,q1=>exact False.elim q1
theorem LC {B:Hp}{a:Addr}{vs:List V}{ds:List PyData}(h:gz K B a vs)(t:aA K B ds vs):zG K B (T3 K a vs.length) ds.reverse where
 go:=λi H hi s=>by
  have hl:=ap t
  exact⟨by rw[XZ] at hi;omega,vs,s.pz h,rfl⟩
 yl:=λi H x H' hi s y=>by
  obtain⟨rfl,y⟩:=y
  have hl:=ap t
  rw[XZ] at hi
  obtain⟨d,e,hd⟩:=jU t (y vs (s.pz h))
  exact⟨Same.refl _,d,by rw[List.getElem?_reverse hi,←hl];exact e,λB2 s2 _=>aJ.same s2 _ _ hd⟩
 stop:=λH s=>by
  show vs.length<=_
  rw[XZ,ap t];exact Ku _
theorem QS (hc:X.calm=true)(hg:Gl X "reversed")(hm:X.mg "reversed" =none)(ha:DE X K Ew a fa)(hK:X.K=K:=by rfl)(hs:starEach [a] X.env=[(false,eval a X.env)]:=by rfl):DI X K Ew tg (.Call (.Name "reversed" p) [a] [] pos) (Lg fa) :=
 (QR hg hm ha hs).imp λσ H R q=>p_ (g:=λx _=>NT x.1 x.2) q λB φ Γ k d v H1 r s av q=>by
  replace q:CA K Ew B H Γ σ R (NT k d):=q
  cases d <;> try (exact False.elim q)
  rename_i ds
  obtain⟨B1,ψ,s1,r1,hd⟩:=r.mS av
  obtain⟨a,vs,rfl,h1,h2⟩:=aM hd
  rw[hK]
  exact⟨a,vs,rfl,r1.bs.pz h1,q _ H1 B1 ψ s s1 r1 (LC h1 h2)⟩
end
end L2
namespace Y
open PySem
def S7 (k:Nat):PyData->Bool
 | .int i=>i==(k:Int)
 | _=>false
def in4:PyData->Bool
 | .int i=>decide (0<=i) && decide (i < 4)
 | _=>false
def CI (xs:List PyData):List PyData:=(([0,1,2,3]:List Nat).filter λk=>xs.any (S7 k)).map λ(k:Nat)=> .int (k:Int)
def nc:PyData->Option PyData
 | .list xs=>if xs.all in4=true then some (.list (CI xs)) else none
 | _=>none
def T4:PyData->PyData->Option PyData
 | .int i,.int j=>some (.bool (decide (j<=i)))
 | _,_=>none
theorem Hr (i j:Int):T4 (.int i) (.int j)=some (.bool (decide (j<=i))):=rfl
end Y
namespace L2
open PySem PySem.Spec PyProof.Rows Y
end L2
namespace L2
open PySem Y
mutual
def CJ:PyData->Nat
 | .tuple xs=>zQ xs+1
 | _=>1
def zQ:List PyData->Nat
 | []=>0
 | d :: ds=>CJ d+zQ ds
end
mutual
def jF (h:Heap):PyData->Value->Prop
 | .int i,v=>∃t,v= .int i t
 | .none,v=>v= .none
 | .tuple ds,v=>∃a o items n,v= .ref a/\h.get? a=some o/\o.cls= .type "tuple" /\o.data= .seq items n/\jM h ds items.toList
 | _,_=>False
def jM (h:Heap):List PyData->List Value->Prop
 | [],vs=>vs=[]
 | d :: ds,vs=>∃v r,vs=v :: r/\jF h d v/\jM h ds r
end
mutual
theorem jF.reads {h:Heap}:∀(d:PyData) (v:Value),jF h d v->Reads h v d []
 | .int i,v,x=>by simp only[jF] at x;obtain⟨t,rfl⟩:=x;exact .int i t
 | .none,v,x=>by simp only[jF] at x;subst x;exact .none
 | .tuple ds,v,x=>by
  simp only[jF] at x
  obtain⟨a,o,items,n,rfl,h1,h2,h3,h4⟩:=x
  exact .tuple h1 h2 h3 (jM.reads ds _ h4)
 | .bool _,v,x=>by simp only[jF] at x
 | .str _,v,x=>by simp only[jF] at x
 | .list _,v,x=>by simp only[jF] at x
 | .dict _,v,x=>by simp only[jF] at x
theorem jM.reads {h:Heap}:∀(ds:List PyData) (vs:List Value),jM h ds vs->ReadsAll h vs ds []
 | [],vs,x=>by simp only[jM] at x;subst x;exact .nil
 | d :: ds,vs,x=>by
  simp only[jM] at x
  obtain⟨v,r,rfl,h1,h2⟩:=x
  exact .cons (jF.reads d v h1) (jM.reads ds r h2)
end
mutual
theorem lC:∀(n:Nat) (d:PyData),nest n d=true->d.canLay0=true
 | _,.int _,_=>rfl
 | _,.none,_=>rfl
 | n+1,.tuple ds,x=>by rw[nest] at x;simp only[PyData.canLay0];exact yG n ds x
 | 0,.tuple _,x=>by simp[nest] at x
 | 0,.bool _,x=>by simp[nest] at x
 | 0,.str _,x=>by simp[nest] at x
 | 0,.list _,x=>by simp[nest] at x
 | 0,.dict _,x=>by simp[nest] at x
 | _+1,.bool _,x=>by simp[nest] at x
 | _+1,.str _,x=>by simp[nest] at x
 | _+1,.list _,x=>by simp[nest] at x
 | _+1,.dict _,x=>by simp[nest] at x
theorem yG:∀(n:Nat) (ds:List PyData),nests n ds=true->PyData.canLayAll0 ds=true
 | _,[],_=>rfl
 | n,d :: ds,x=>by
  rw[nests,KQ] at x
  simp only[PyData.canLayAll0,lC n d x.1,yG n ds x.2,Xv]
end
mutual
theorem uY:∀(n:Nat) (d:PyData),nest n d=true->d.depth<=n+1
 | _,.int _,_=>by simp[PyData.depth]
 | _,.none,_=>by simp[PyData.depth]
 | n+1,.tuple ds,x=>by rw[nest] at x;have:=sg n ds x;simp only[PyData.depth];omega
 | 0,.tuple _,x=>by simp[nest] at x
 | 0,.bool _,x=>by simp[nest] at x
 | 0,.str _,x=>by simp[nest] at x
 | 0,.list _,x=>by simp[nest] at x
 | 0,.dict _,x=>by simp[nest] at x
 | _+1,.bool _,x=>by simp[nest] at x
 | _+1,.str _,x=>by simp[nest] at x
 | _+1,.list _,x=>by simp[nest] at x
 | _+1,.dict _,x=>by simp[nest] at x
theorem sg:∀(n:Nat) (ds:List PyData),nests n ds=true->PyData.depthAll ds<=n+1
 | _,[],_=>by simp[PyData.depthAll]
 | n,d :: ds,x=>by
  rw[nests,KQ] at x
  have h1:=uY n d x.1
  have h2:=sg n ds x.2
  simp only[PyData.depthAll];omega
end
mutual
theorem uZ:∀(n:Nat) (x y:PyData),nest n x=true->nest n y=true->PyData.eqv x y=true->x=y
 | _,.none,.none,_,_,_=>rfl
 | _,.int i,.int j,_,_,h=>by simp[PyData.eqv] at h;rw[h]
 | n+1,.tuple xs,.tuple ys,hx,hy,h=>by
  rw[nest] at hx hy
  simp only[PyData.eqv] at h
  rw[yH n xs ys hx hy h]
 | 0,.tuple _,_,hx,_,_=>by simp[nest] at hx
 | 0,_,.tuple _,_,hy,_=>by simp[nest] at hy
 | _,.none,.int _,_,_,h=>by simp[PyData.eqv] at h
 | _,.none,.tuple _,_,_,h=>by simp[PyData.eqv] at h
 | _,.int _,.none,_,_,h=>by simp[PyData.eqv] at h
 | _,.int _,.tuple _,_,_,h=>by simp[PyData.eqv] at h
 | _,.tuple _,.none,_,_,h=>by simp[PyData.eqv] at h
 | _,.tuple _,.int _,_,_,h=>by simp[PyData.eqv] at h
 | n,.bool _,_,hx,_,_=>by cases n <;> simp[nest] at hx
 | n,.str _,_,hx,_,_=>by cases n <;> simp[nest] at hx
 | n,.list _,_,hx,_,_=>by cases n <;> simp[nest] at hx
 | n,.dict _,_,hx,_,_=>by cases n <;> simp[nest] at hx
 | n,_,.bool _,_,hy,_=>by cases n <;> simp[nest] at hy
 | n,_,.str _,_,hy,_=>by cases n <;> simp[nest] at hy
 | n,_,.list _,_,hy,_=>by cases n <;> simp[nest] at hy
 | n,_,.dict _,_,hy,_=>by cases n <;> simp[nest] at hy
theorem yH:∀(n:Nat) (xs ys:List PyData),nests n xs=true->nests n ys=true->PyData.eqvAll xs ys=true->xs=ys
 | _,[],[],_,_,_=>rfl
 | n,x :: xs,y :: ys,hx,hy,h=>by
  rw[nests,KQ] at hx hy
  simp only[PyData.eqvAll,KQ] at h
  rw[uZ n x y hx.1 hy.1 h.1,yH n xs ys hx.2 hy.2 h.2]
 | _,[],_ :: _,_,_,h=>by simp[PyData.eqvAll] at h
 | _,_ :: _,[],_,_,h=>by simp[PyData.eqvAll] at h
end
section
variable {prog:Program}{w:World}{A:Around}{E:Jx}{s:Shared}
theorem ID {Q:Int->Shared->Prop}(hu:A.units < cLine)(h:Q Co {s with toks:=s.toks+1}):wpAny (model prog w) A (pyHash .none) Q E s:=by
 have hT:=typeIs_none s
 unfold pyHash;unfold pyHashByItsType
 refine J8 (wpAny_cRoomFor_or (.inr hu) ?_);refine J8 (Jk hT F.slot_NoneType_hash.lookup ?_)
 rw[J6 (by decide)]
 refine J8 (Jk hT F.slot_NoneType_hash.lookup ?_)
 show wpAny _ _ (callSpecialIfBoundUnlessNone? .none "__hash__" _ >>=_) Q E s
 refine J8 (wpAny_callSpecialIfBoundUnlessNone?_slot hT F.slot_NoneType_hash (J1 F.slot_NoneType_hash hT F.entry_NoneType_hash ?_ (F.args_NoneType_hash_1 _)))
 show wpAny _ _ (retInt 0xFCA86420) _ _ s
 refine wpAny_ret_mkInt ?_
 exact J7 h
mutual
theorem Hs:∀(n:Nat) (d:PyData) {A:Around} {E:Jx} {s:Shared} {v:Value} {Q:Int->Shared->Prop},nest n d=true->jF s.heap d v->A.units+n < cLine->Q (iK d) {s with toks:=s.toks+CJ d}->wpAny (model prog w) A (pyHash v) Q E s
 | n,.int i,A,E,s,v,Q,_,x,_,h=>by
  simp only[jF] at x;obtain⟨t,rfl⟩:=x
  exact(intKind prog w).pyHash (k:=i) (by simp[intKind,Value.isInt]) h
 | n,.none,A,E,s,v,Q,_,x,hu,h=>by
  simp only[jF] at x;subst x
  exact ID (by omega) h
 | n+1,.tuple ds,A,E,s,v,Q,hn,x,hu,h=>by
  rw[nest] at hn
  simp only[jF] at x
  obtain⟨a,o,items,m,rfl,ho,hc,hd,hi⟩:=x
  have hT:s.TypeIs (.ref a) "tuple":=⟨o,ho,hc⟩
  unfold pyHash;unfold pyHashByItsType
  refine J8 (wpAny_cRoomFor_or (.inr (by omega)) ?_);refine J8 (Jk hT F.slot_tuple_hash.lookup ?_)
  rw[J6 (by rw[beq_builtin_none];decide)]
  refine J8 (Jk hT F.slot_tuple_hash.lookup ?_)
  show wpAny (model prog w) A (callSpecialIfBoundUnlessNone? (.ref a) "__hash__" _ >>=_) Q E s
  refine J8 (wpAny_callSpecialIfBoundUnlessNone?_slot hT F.slot_tuple_hash (J1 F.slot_tuple_hash hT F.entry_tuple_hash ?_ (F.args_tuple_hash_1 _)))
  show wpAny (model prog w) A.in1 (Builtin.Tuple.tupleItemsOf (.ref a) >>=_) _ _ s
  refine J8 (wpAny_tupleItemsOf ho hd ?_);refine J8 ?_
  rw[←Array.forIn_toList]
  refine yI n ds #[] hn hi (by show A.units+1+n < cLine;omega) λb hb=> ?_
  rw[Y4] at hb
  show wpAny (model prog w) A.in1 (retInt (Builtin.Tuple.tupleHashOf b.toList)) _ _ _
  rw[hb]
  refine wpAny_ret_mkInt ?_
  simp only[iK,reduceHash,CJ] at h
  show wpAny (model prog w) A (if (decide (-(2:Int)^63<=Builtin.Tuple.tupleHashOf (lS ds)) && decide (Builtin.Tuple.tupleHashOf (lS ds) < 2^63))=true then _ else _) Q E _
  by_cases hr:(decide (-(2:Int)^63<=Builtin.Tuple.tupleHashOf (lS ds)) && decide (Builtin.Tuple.tupleHashOf (lS ds) < 2^63))=true
  ·rw[J5 hr];rw[J5 hr] at h
   exact J7 (by simpa [Nat.add_assoc] using h)
  ·rw[J6 hr];rw[J6 hr] at h
   exact J8 (wpAny_rule (J7 (by simpa [Nat.add_assoc] using h)))
 | 0,.tuple _,_,_,_,_,_,hn,_,_,_=>by simp[nest] at hn
 | n,.bool _,_,_,_,_,_,hn,_,_,_=>by cases n <;> simp[nest] at hn
 | n,.str _,_,_,_,_,_,hn,_,_,_=>by cases n <;> simp[nest] at hn
 | n,.list _,_,_,_,_,_,hn,_,_,_=>by cases n <;> simp[nest] at hn
 | n,.dict _,_,_,_,_,_,hn,_,_,_=>by cases n <;> simp[nest] at hn
theorem yI:∀(n:Nat) (ds:List PyData) {A:Around} {E:Jx} {s:Shared} {vs:List Value} {Q:Array Int->Shared->Prop} (b0:Array Int),nests n ds=true->jM s.heap ds vs->A.units+n < cLine->
  (∀b:Array Int,b.toList=b0.toList++lS ds->Q b {s with toks:=s.toks+zQ ds})->
  wpAny (model prog w) A (forIn vs b0 λx r=>do let y←pyHash x;pure (ForInStep.yield (r.push y))) Q E s
 | _,[],A,E,s,vs,Q,b0,_,x,_,h=>by
  simp only[jM] at x;subst x
  rw[List.forIn_nil]
  exact J7 (h b0 (by simp[lS]))
 | n,d :: ds,A,E,s,vs,Q,b0,hn,x,hu,h=>by
  simp only[jM] at x
  obtain⟨v,r,rfl,h1,h2⟩:=x
  rw[nests,KQ] at hn
  rw[YU]
  refine J8 (J8 (Hs n d hn.1 h1 hu (J7 ?_)))
  refine yI n ds (s:={s with toks:=s.toks+CJ d}) (b0.push (iK d)) hn.2 h2 hu λb hb=> ?_
  have:=h b (by rw[hb];simp[lS])
  simpa [zQ,Nat.add_assoc] using this
end
mutual
theorem CK:∀(n:Nat) (d:PyData) {A:Around} {E:Jx} {s:Shared} {v:Value} {Q:Bool->Shared->Prop},nest n d=true->jF s.heap d v->Q true s->wpAny (model prog w) A (eqIsQuiet n v) Q E s
 | n,.int i,A,E,s,v,Q,_,x,h=>by
  simp only[jF] at x;obtain⟨t,rfl⟩:=x
  rw[eqIsQuiet_byValue n rfl];exact J7 h
 | n,.none,A,E,s,v,Q,_,x,h=>by
  simp only[jF] at x;subst x
  rw[eqIsQuiet_byValue n rfl];exact J7 h
 | n+1,.tuple ds,A,E,s,v,Q,hn,x,h=>by
  rw[nest] at hn
  simp only[jF] at x
  obtain⟨a,o,items,m,rfl,ho,hc,hd,hi⟩:=x
  have hT:s.TypeIs (.ref a) "tuple":=⟨o,ho,hc⟩
  unfold eqIsQuiet
  refine J8 (Jk hT F.slot_tuple_eq.lookup ?_);dsimp only
  refine J8 (wpAny_isInstance hT isSubtype_tuple_tuple ?_)
  simp only[Bool.not_true,U3,if_false]
  refine J8 (wpAny_seqItems ho hd ?_);refine J8 ?_
  show wpAny (model prog w) A (forIn items _ _) _ E s
  rw[←Array.forIn_toList]
  exact yJ n ds hn hi (J7 h)
 | 0,.tuple _,_,_,_,_,_,hn,_,_=>by simp[nest] at hn
 | n,.bool _,_,_,_,_,_,hn,_,_=>by cases n <;> simp[nest] at hn
 | n,.str _,_,_,_,_,_,hn,_,_=>by cases n <;> simp[nest] at hn
 | n,.list _,_,_,_,_,_,hn,_,_=>by cases n <;> simp[nest] at hn
 | n,.dict _,_,_,_,_,_,hn,_,_=>by cases n <;> simp[nest] at hn
theorem yJ:∀(n:Nat) (ds:List PyData) {A:Around} {E:Jx} {s:Shared} {vs:List Value} {Q:Option Bool×PUnit->Shared->Prop},nests n ds=true->jM s.heap ds vs->Q (none,PUnit.unit) s->
  wpAny (model prog w) A (forIn vs ((none,PUnit.unit):Option Bool×PUnit) λx r=>do let y←eqIsQuiet n x;if (!y)=true then pure (ForInStep.done (some false,PUnit.unit)) else pure (ForInStep.yield (none,PUnit.unit))) Q E s
 | _,[],A,E,s,vs,Q,_,x,h=>by
  simp only[jM] at x;subst x
  rw[List.forIn_nil]
  exact J7 h
 | n,d :: ds,A,E,s,vs,Q,hn,x,h=>by
  simp only[jM] at x
  obtain⟨v,r,rfl,h1,h2⟩:=x
  rw[nests,KQ] at hn
  rw[YU]
  refine J8 (J8 (CK n d hn.1 h1 ?_))
  simp only[Bool.not_true,U3,if_false]
  exact J7 (yJ n ds hn.2 h2 h)
end
end
section
variable {prog:Program}{w:World}{K:Type}[DecidableEq K]{knd:HeapKind prog w K}{A:Around}{E:Jx}{s:Shared}
theorem Vm {d a:Addr}{xs:List (K×Addr×Value)}{k:K}{v:Value}{Q:Unit->Shared->Prop}(hu:knd.room A)(hkey:knd.is s.heap k a)(hm:s.heap.DictOfH knd d xs)(hsz:xs.length<=sizeLine)
  (hQ:∀h',h'.DictOfH knd d (storedH xs k a v)->Heap.SameBut d s.heap h'->Q () {s with heap:=h'}):wpAny (model prog w) A (dictSetHashed d (.ref a) (knd.hash k) v) Q E s:=by
 obtain⟨o,es,ep,ho,hc,hd,he,his,hn⟩:=hm
 have hes:es.size<=sizeLine:=by rw[size_of_entries he];exact hsz
 unfold dictSetHashed
 refine J2 ?_
 refine J8 (wpAny_dictFind_heap hu hkey ho hd he his hn (λhno=> ?_) λj p hj=> ?_)
 ·have h1:=storedH_new (atKey_none_of_get hno) a v
  refine J8 (wpAny_rule (wpAny_updateDictKeys (hz:=hes) ho hd (hQ _ ⟨_,_,ep+1,Xk _ ho (Obj.isFreed_of_dict (Obj.data_mapDictKeys hd _)),hc.mapDictKeys _,Obj.data_mapDictKeys hd _,?_,λx hx=> ?_,?_⟩ (Heap.SameBut.update ..))))
  ·rw[h1];simp[he,entryOfKey]
  ·rw[h1] at hx
   rcases Kk.mp hx with hx | hx
   ·exact knd.keeps (his x hx) ho hd (Heap.SameBut.update ..)
   ·rw[K7.mp hx];exact knd.keeps hkey ho hd (Heap.SameBut.update ..)
  ·rw[h1,X6,XX]
   refine⟨hn,KJ.mpr ⟨by simp,X3⟩,λx hx y hy e=>not_mem_keys_of_get hno ?_⟩
   have hy':y=k:=by simpa using hy
   rw[←hy',←e];exact hx
 ·have h1:=storedH_old (atKey_of_get hn hj) a v
  refine J8 (wpAny_rule (J8 (wpAny_updateDict ho hd (wpAny_point (hQ _ ⟨_,_,ep,Xk _ ho (Obj.isFreed_of_dict (Obj.data_mapDict hd _)),hc.mapDict _,Obj.data_mapDict hd _,?_,λx hx=> ?_,?_⟩ (Heap.SameBut.update ..))))))
  ·rw[h1]
   have:=modify_map_putAt (entryOfKey knd) (λe:DictEntry=>{e with val:=v}) k v (λ_ _=>rfl) hn hj
   rw[←he] at this;obtain⟨l⟩:=es;simpa using this
  ·rw[h1] at hx
   obtain⟨y,hy,rfl⟩:=Ky.mp hx
   unfold putAt;split <;> exact knd.keeps (his y hy) ho hd (Heap.SameBut.update ..)
  ·rw[h1,keys_map_putAt];exact hn
def ij (xs more:List (K×Addr×Value)):List (K×Addr×Value):=more.foldl (λacc x=>storedH acc x.1 x.2.1 x.2.2) xs
theorem CL (xs:List (K×Addr×Value))(k:K)(a:Addr)(v:Value):(storedH xs k a v).length<=xs.length+1:=by
 unfold storedH;split
 ·rw[K4];omega
 ·rw[Kx,X8];exact Ku _
theorem sh:∀(more xs:List (K×Addr×Value)),(ij xs more).length<=xs.length+more.length
 | [],xs=>Ku _
 | x :: more,xs=>by
  have h1:=sh more (storedH xs x.1 x.2.1 x.2.2)
  have h2:=CL xs x.1 x.2.1 x.2.2
  show(ij (storedH xs x.1 x.2.1 x.2.2) more).length<=_
  rw[Kv];omega
theorem zR {xs more:List (K×Addr×Value)}{i:Nat}{x:K×Addr×Value}(h:more[i]? =some x):ij xs (more.take (i+1))=storedH (ij xs (more.take i)) x.1 x.2.1 x.2.2:=by
 unfold ij;rw[UY,h,List.foldl_append];rfl
theorem QT {nm:String}{d o:Addr}{xs more:List (K×Addr×Value)}{Q:Unit->Shared->Prop}(hu:knd.room A)(hdo:d≠o)(hoS:(o==sysModules)=false)(hx0:xs≠[])
  (hd:s.heap.DictOfH knd d xs) (ho:s.heap.DictOfH knd o more) (hsz:xs.length+more.length<=sizeLine)
  (hQ:∀h',h'.DictOfH knd d (ij xs more)->Heap.SameBut d s.heap h'->Q () {s with heap:=h'}):wpAny (model prog w) A (Builtin.Dict.mergeDict nm d o) Q E s:=by
 obtain⟨od,esd,epd,hod,hcd,hdd,hed,Vn,hnd⟩:=id hd
 obtain⟨oo,eso,epo,hoo,hco,hdo',heo,QU,hno⟩:=id ho
 have hlen:eso.size=more.length:=size_of_entries heo
 unfold Builtin.Dict.mergeDict
 rw[J6 (by simpa using hdo)]
 unfold Builtin.Dict.showsAll
 rw[J6 (by rw[hoS];exact K3)]
 refine J8 (J7 ?_);refine J8 (wpAny_dictEntries hoo hdo' ?_)
 have loop:wpAny (model prog w) A (do
   let epoch←dictEpoch o;let l←dictEntries o
   forIn [:l.size] PUnit.unit λi (_:PUnit)=>(do
     let l'←dictEntries o
     match l'[i]? with
      | some e=>do
       holding [e.key,e.val] (dictSetHashed d e.key e.hash e.val)
       let ep'←dictEpoch o
       if (
         ep' !=epoch)=true then do
         (unsupported (toString nm++toString ":source-changed-during-callback"):Sem PUnit);pure (ForInStep.yield PUnit.unit)
        else pure (ForInStep.yield PUnit.unit)
      | _=>do
       (unsupported "internal:dict-merge":Sem PUnit);pure (ForInStep.yield PUnit.unit):Sem (ForInStep PUnit))
   pure ()) Q E s:=by
  refine J8 (wpAny_dictEpoch hoo hdo' ?_);refine J8 (wpAny_dictEntries hoo hdo' ?_);refine J8 ?_
  rw[Std.Legacy.Range.forIn_eq_forIn_range'];simp only[Std.Legacy.Range.size,Nat.sub_zero,Nat.add_sub_cancel,Nat.div_one]
  refine wpAny_forIn_list _ (λrest _ s'=>∃h' i,s'={s with heap:=h'}/\rest=List.range' i (eso.size - i)/\i<=eso.size/\h'.DictOfH knd d (ij xs (more.take i))/\h'.get? o=some oo/\Heap.SameBut d s.heap h')
   _ ?_ ?_ _ _ ⟨s.heap,0,rfl,by simp,Xu _,by simpa [ij] using hd,hoo,Heap.SameBut.refl _ _⟩
  ·rintro x rest b s' ⟨h',i,rfl,hr,hi,hd',hoo',hs'⟩
   have hlt:i < eso.size:=Nat.lt_of_not_le λh=>by rw[Nat.sub_eq_zero_of_le h] at hr;simp at hr
   obtain⟨rfl,hrest⟩:x=i/\rest=List.range' (i+1) (eso.size - (i+1)):=by
    rw[show eso.size - i=(eso.size - (i+1))+1 by omega,List.range'_succ] at hr;injection hr with h1 h2;exact⟨h1,h2⟩
   refine J8 (wpAny_dictEntries hoo' hdo' ?_)
   have Wi:x < more.length:=by omega
   have hkv:more[x]? =some more[x]:=K5 Wi
   have hen:eso[x]? =some (entryOfKey knd more[x]):=by rw[entry_at heo x,hkv];rfl
   rw[hen]
   have hmx:(ij xs (more.take x)).length<=sizeLine:=by
    have e1:=sh (more.take x) xs
    rw[Uk] at e1;omega
   have hkx:knd.is h' more[x].1 more[x].2.1:=knd.keeps (QU _ (Xy Wi)) hod hdd hs'
   refine J8 (J2 (Vm (s:={s with heap:=h'}) hu hkx hd' hmx λh'' hd'' hs''=> ?_))
   have hoo'':h''.get? o=some oo:=(hs''.2 o (Ne.symm hdo)).trans hoo'
   refine J8 (wpAny_dictEpoch hoo'' hdo' ?_)
   rw[J6 (by simp)]
   exact J7 ⟨h'',x+1,rfl,hrest,hlt,by rw[zR hkv];exact hd'',hoo'',hs'.trans hs''⟩
  ·rintro b s' ⟨h',i,rfl,hr,hi,hd',hoo',hs'⟩
   have hin:i=eso.size:=YX hi (Nat.le_of_not_lt λh=>by
    rw[show eso.size - i=(eso.size - (i+1))+1 by omega,List.range'_succ] at hr;exact nomatch hr)
   refine J7 (hQ h' ?_ hs')
   rw[hin,hlen,UW] at hd';exact hd'
 dsimp only
 split
 ·refine J8 (wpAny_dictEntries hod hdd ?_)
  split
  ·rename_i hemp
   have h0:esd= #[]:=Array.isEmpty_iff.mp hemp
   rw[h0] at hed
   exact absurd (by simpa using hed) hx0
  ·exact loop
 ·exact loop
theorem u3 {α:Type}(f:α->Int)(c:Int):∀(l:List α),(l.map f).Nodup->(l.filter λx=>f x==c).length<=1
 | [],_=>Xu _
 | x :: l,h=>by
  rw[KZ,KJ] at h
  rw[UQ]
  by_cases hx:(f x==c)=true
  ·rw[J5 hx,Kv]
   have:l.filter (λx=>f x==c)=[]:=List.filter_eq_nil_iff.mpr λy hy hz=>h.1 (by
    rw[eq_of_beq hx,←eq_of_beq hz];exact Y5 hy)
   rw[this];exact Ku _
  ·rw[J6 hx];exact u3 f c l h.2
theorem S8 {nm:String}{d o:Addr}{more:List (K×Addr×Value)}{Q:Unit->Shared->Prop}(hdo:d≠o)(hoS:(o==sysModules)=false)(hm0:more≠[])
  (hT:∀x∈more,s.TypeIs (.ref x.2.1) "tuple") (hh:(more.map λx=>knd.hash x.1).Nodup)
  (hd:s.heap.DictOfH knd d []) (ho:s.heap.DictOfH knd o more) (hsz:more.length<=sizeLine)
  (hQ:∀h',h'.DictOfH knd d more->Heap.SameBut d s.heap h'->Q () {s with heap:=h'}):wpAny (model prog w) A (Builtin.Dict.mergeDict nm d o) Q E s:=by
 obtain⟨od,esd,epd,hod,hcd,hdd,hed,Vn,hnd⟩:=id hd
 obtain⟨oo,eso,epo,hoo,hco,hdo',heo,QU,hno⟩:=id ho
 have hlen:eso.size=more.length:=size_of_entries heo
 have h0:esd= #[]:=by obtain⟨l⟩:=esd;simpa using hed
 subst h0
 unfold Builtin.Dict.mergeDict
 rw[J6 (by simpa using hdo)]
 unfold Builtin.Dict.showsAll
 rw[J6 (by rw[hoS];exact K3)]
 refine J8 (J7 ?_);refine J8 (wpAny_dictEntries hoo hdo' ?_)
 have few:(eso.all λe=>(keyPart e.key).isSome)=false:=by
  obtain⟨x,r,rfl⟩:=List.exists_cons_of_ne_nil hm0
  obtain⟨l⟩:=eso
  simp only at heo
  subst heo
  simp[entryOfKey,keyPart]
 dsimp only
 rw[few]
 simp only[Bool.and_false,Bool.not_false,if_true]
 refine J8 (wpAny_dictEntries hod hdd ?_)
 rw[J5 (show(#[]:Array DictEntry).isEmpty=true from rfl)]
 refine J8 ?_
 unfold Builtin.Dict.entriesForEmpty
 refine J8 (wpAny_dictEntries hoo hdo' ?_);refine J8 ?_
 rw[←Array.forIn_toList]
 refine wpAny_forIn_list _ (λrest _ s'=>s'=s/\∀e∈rest,e∈eso.toList) _ ?_ ?_ _ _ ⟨rfl,λe he=>he⟩
 ·rintro e rest b s' ⟨rfl,hr⟩
  obtain⟨x,hx,rfl⟩:∃x∈more,entryOfKey knd x=e:=by
   have:=hr e K8
   rw[heo] at this
   obtain⟨x,hx,he⟩:=Ky.mp this
   exact⟨x,hx,he⟩
  have hT1:=hT x hx
  have hone:¬ (eso.filter λy=>y.hash==(entryOfKey knd x).hash).size > 1:=by
   have e1:(eso.toList.map DictEntry.hash).Nodup:=by rw[heo,X7];exact hh
   have:=u3 DictEntry.hash (entryOfKey knd x).hash eso.toList e1
   rw[←Array.length_toList,Array.toList_filter];omega
  unfold Builtin.Dict.quietEq
  refine J8 ?_
  show wpAny (model prog w) A (specialOf (.ref x.2.1) "__eq__" >>=_) _ E _
  refine J8 (Jk hT1 F.slot_tuple_eq.lookup (J7 ?_))
  rw[show((some (Value.builtin "tuple.__eq__")==some (Value.builtin "object.__eq__"))=false) by decide]
  simp only[Bool.not_false,if_true]
  rw[J6 hone]
  exact J7 ⟨rfl,λe he=>hr e (K9 _ he)⟩
 ·rintro b s' ⟨rfl,_⟩
  refine J7 ?_
  have hne:eso.isEmpty=false:=by
   cases hz:eso.isEmpty with
   | false=>rfl
   | true=>rw[Array.isEmpty_iff.mp hz] at hlen;exact absurd (Yj.mp hlen.symm) hm0
  rw[hne]
  simp only[Bool.not_false,if_true]
  refine J8 (wpAny_updateDictKeysTo hod hdd (J7 (hQ _ ⟨_,_,epd+1,Xk _ hod (Obj.isFreed_of_dict (Obj.data_mapDictKeys hdd _)),hcd.mapDictKeys _,Obj.data_mapDictKeys hdd _,heo,λx hx=>knd.keeps (QU x hx) hod hdd (Heap.SameBut.update ..),hno⟩ (Heap.SameBut.update ..))) (by omega))
end
mutual
theorem jF.keep {h h':Heap}(k:∀b o items n,h.get? b=some o->o.data= .seq items n->h'.get? b=some o):∀(d:PyData) (v:Value),jF h d v->jF h' d v
 | .int i,v,x=>by simp only[jF] at x⊢;exact x
 | .none,v,x=>by simp only[jF] at x⊢;exact x
 | .tuple ds,v,x=>by
  simp only[jF] at x⊢
  obtain⟨a,o,items,n,rfl,h1,h2,h3,h4⟩:=x
  exact⟨a,o,items,n,rfl,k a o items n h1 h3,h2,h3,jM.keep k ds _ h4⟩
 | .bool _,v,x=>by simp only[jF] at x
 | .str _,v,x=>by simp only[jF] at x
 | .list _,v,x=>by simp only[jF] at x
 | .dict _,v,x=>by simp only[jF] at x
theorem jM.keep {h h':Heap}(k:∀b o items n,h.get? b=some o->o.data= .seq items n->h'.get? b=some o):∀(ds:List PyData) (vs:List Value),jM h ds vs->jM h' ds vs
 | [],vs,x=>by simp only[jM] at x⊢;exact x
 | d :: ds,vs,x=>by
  simp only[jM] at x⊢
  obtain⟨v,r,rfl,h1,h2⟩:=x
  exact⟨v,r,rfl,jF.keep k d v h1,jM.keep k ds r h2⟩
end
def NK:={ds:List PyData // nests 7 ds=true}
noncomputable instance:DecidableEq NK:=λ_ _=>Classical.propDecidable _
def NK.d (k:NK):PyData:=.tuple k.1
theorem NK.n (k:NK):nest 8 k.d=true:=by rw[NK.d,nest];exact k.2
theorem NK.inj {x y:NK}(h:x.d=y.d):x=y:=Subtype.ext (PyData.tuple.inj h)
noncomputable def cC (prog:Program)(w:World):HeapKind prog w NK where
 is:=λh k a=>jF h k.d (.ref a)
 hash:=λk=>iK k.d
 draws:=λk=>CJ k.d
 room:=λA=>A.units+10 < cLine
 inj:=λ{h a x y} hx hy=>NK.inj (SeqAt.Reads.unique _ _ _ _ _ (lC 8 _ x.n) (jF.reads _ _ hx) (jF.reads _ _ hy))
 keeps:=λ{h h' k a d o es ep} x ho hd hs=>jF.keep (λb ob items n hb hdb=>(hs.2 b λe=>by subst e;rw[ho] at hb;cases hb;rw[hd] at hdb;cases hdb).trans hb) _ _ x
 pyHash:=λ{A E s k a Q} hu x h=>Hs 8 k.d k.n x (by omega) h
 eqBool:=λ{A E s x y a b Q} hu hx hy h=>by
  have h1:=SeqAt.eqAt_reads x.d y.d A s (.ref a) (.ref b) [] [] (jF.reads _ _ hx) (jF.reads _ _ hy) (lC 8 _ x.n) (lC 8 _ y.n) (by
   have:=uY 8 _ x.n
   have:min x.d.depth y.d.depth<=9:=Kq (Nat.min_le_left _ _) this
   omega)
  refine h1 prog w E Q ?_
  have e:PyData.eqv x.d y.d=decide (x=y):=by
   rw[Uz,J9]
   refine⟨λz=>NK.inj (uZ 8 _ _ x.n y.n z),λz=> ?_⟩
   rw[z];exact SeqAt.eqv_refl _ (lC 8 _ y.n)
  rw[e];exact h
 quiet:=λ{A E s k a Q} x h=>CK 8 k.d k.n x h
section
variable {prog:Program}{w:World}{K:Type}[DecidableEq K]{knd:HeapKind prog w K}{A:Around}{E:Jx}{s:Shared}
theorem zS {h h':Heap}{d:Addr}{xs:List (K×Addr×Value)}(hm:h.DictOfH knd d xs)(k:∀b o,h.get? b=some o->h'.get? b=some o)(hi:∀x∈xs,knd.is h' x.1 x.2.1):h'.DictOfH knd d xs:=by
 obtain⟨o,es,ep,ho,hc,hd,he,his,hn⟩:=hm
 exact⟨o,es,ep,k _ _ ho,hc,hd,he,hi,hn⟩
theorem S9 {o:Addr}{more:List (K×Addr×Value)}{Q:Jx}(hoS:(o==sysModules)=false)(ho:s.heap.DictOfH knd o more)(hm0:more≠[])(hsz:more.length<=sizeLine)
  (hT:∀x∈more,s.TypeIs (.ref x.2.1) "tuple") (hh:(more.map λx=>knd.hash x.1).Nodup)
  (hi:∀x∈more,knd.is (s.heap.push {cls:=.type "dict",data:=.dict #[]}) x.1 x.2.1)
  (h:∀h',h'.DictOfH knd s.heap.objs.size more->Heap.SameBut s.heap.objs.size (s.heap.push {cls:=.type "dict",data:=.dict #[]}) h'->Q (.ref s.heap.objs.size) {s with heap:=h'}) :
  wpAny (model prog w) A (call (.type "dict") [.ref o]) Q E s:=by
 refine callType_codes (Q₁:=λobj s₁=>obj= .ref s.heap.objs.size/\s₁={s with heap:=s.heap.push {cls:=.type "dict",data:=.dict #[]}}) F.kt_called_dict (F.kt_typeCall_dict_1 _) F.entry_dict_init (kt_code_dict_new _ ⟨rfl,rfl⟩) λobj s₁ hs₁=> ?_
 obtain⟨rfl,rfl⟩:=hs₁
 have hk:∀b u,s.heap.get? b=some u->(s.heap.push {cls:=.type "dict",data:=.dict #[]}).get? b=some u:=λb u e=>K6 _ e
 have hnew:(s.heap.push {cls:=.type "dict",data:=.dict #[]}).DictOfH knd s.heap.objs.size []:=Heap.DictOfH.new s.heap
 have ho':=zS ho hk hi
 have hdo:s.heap.objs.size≠o:=by
  obtain⟨_,_,_,hg,_⟩:=ho
  exact λe=>absurd (KU hg) (by rw[e];exact XJ _)
 have hT1:Shared.TypeIs {s with heap:=s.heap.push {cls:=.type "dict",data:=.dict #[]}} (.ref s.heap.objs.size) "dict":=hnew.typeIs (s:={s with heap:=s.heap.push {cls:=.type "dict",data:=.dict #[]}})
 have hT2:Shared.TypeIs {s with heap:=s.heap.push {cls:=.type "dict",data:=.dict #[]}} (.ref o) "dict":=ho'.typeIs (s:={s with heap:=s.heap.push {cls:=.type "dict",data:=.dict #[]}})
 refine⟨hT1,F.args_dict_init_2 _ _,?_⟩
 unfold Builtin.«dict.__init__»;refine J8 ?_
 unfold Builtin.Dict.selfAndRest;refine J8 (wpAny_notOrdered_dict hT1 ?_)
 show wpAny (model prog w) _ (pure (s.heap.objs.size,[Value.ref o])) _ _ _;refine J7 ?_
 show wpAny (model prog w) _ (Builtin.Dict.updateFrom "dict.__init__" s.heap.objs.size (.ref o) [] .none) _ _ _;unfold Builtin.Dict.updateFrom
 refine J8 (wpAny_typeOf hT2 ?_);rw[J6 (by decide)]
 refine J8 ?_;unfold Builtin.Dict.merge;refine J8 ?_;unfold Builtin.Dict.readDirectly
 refine J8 (wpAny_isInstance hT2 isSubtype_dict_dict ?_);simp only[Bool.not_true,U3,if_false]
 refine J8 (Jk hT2 F.slot_dict_iter.lookup (J7 ?_));simp only[beq_self_eq_true,if_true];refine J8 (J7 ?_)
 refine S8 (s:={s with heap:=s.heap.push {cls:=.type "dict",data:=.dict #[]}}) hdo hoS hm0 (λx hx=>let ⟨ob,e,c⟩:=hT x hx;⟨ob,hk _ _ e,c⟩) hh hnew ho' hsz λh' hd' hs'=> ?_
 show wpAny (model prog w) _ (Builtin.Dict.addKeywords s.heap.objs.size [] >>=_) _ _ _
 exact J8 (J7 (J7 ⟨rfl,h h' hd' hs'⟩))
theorem N5 (d o:Addr)(hdo:d≠o)(hoS:(o==sysModules)=false) :
  MeetsIn prog w (Builtin.«dict.update» ⟨[.ref d,.ref o],[]⟩) (λA R s=>knd.room A.in1/\∃xs more,xs≠[]/\s.heap.DictOfH knd d xs/\s.heap.DictOfH knd o more/\xs.length+more.length<=sizeLine/\
   ∀h',h'.DictOfH knd d (ij xs more)->Heap.SameBut d s.heap h'->R (.ok (.ret .none)) {s with heap:=h'}) :=
 .of_wp λA R s ⟨hu,xs,more,hx0,hd,ho,hsz,h⟩=>by
  unfold Builtin.«dict.update»;refine J8 ?_
  unfold Builtin.Dict.selfAndRest;refine J8 (wpAny_notOrdered_dict hd.typeIs ?_)
  show wpAny (model prog w) _ (pure (d,[Value.ref o])) _ _ s;refine J7 ?_
  show wpAny (model prog w) _ (Builtin.Dict.updateFrom "dict.update" d (.ref o) [] .none) _ _ s;unfold Builtin.Dict.updateFrom
  refine J8 (wpAny_typeOf ho.typeIs ?_);rw[J6 (by decide)]
  refine J8 ?_;unfold Builtin.Dict.merge;refine J8 ?_;unfold Builtin.Dict.readDirectly
  refine J8 (wpAny_isInstance ho.typeIs isSubtype_dict_dict ?_);simp only[Bool.not_true,U3,if_false]
  refine J8 (Jk ho.typeIs F.slot_dict_iter.lookup (J7 ?_));simp only[beq_self_eq_true,if_true];refine J8 (J7 ?_)
  refine QT hu hdo hoS hx0 hd ho hsz λh' hd' hs'=> ?_
  show wpAny (model prog w) _ (Builtin.Dict.addKeywords d [] >>=_) _ _ _
  exact J8 (J7 (J7 ⟨.none,rfl,h h' hd' hs'⟩))
end
end L2
namespace L2
open PySem PySem.Spec PyProof.Rows Y
section
variable {X:Cx}{pins:List (Addr×Obj)}{σ:St}{H:Hp}{s:Shared}
mutual
theorem aJ.LD (I:Inv X pins σ H s):∀(n:Nat) (d:PyData) (v:V) (u:Value),nest n d=true->aJ X.K H d v->RelV v u->jF s.heap d u
 | n,.int i,v,u,_,h,r=>by
  have:=aF h
  subst this
  obtain⟨t,rfl⟩:=r
  simp only[jF];exact⟨t,rfl⟩
 | n,.none,v,u,_,h,r=>by
  have:=lT h
  subst this
  cases r
  simp only[jF]
 | n+1,.tuple ds,v,u,hn,h,r=>by
  rw[Y.nest] at hn
  obtain⟨a,vs,rfl,h1,h2⟩:=aM h
  cases r
  obtain⟨its,rv,⟨o,e,hc,m,hd⟩,_⟩:=I.tuple h1
  simp only[jF]
  exact⟨a,o,its.toArray,m,rfl,e,hc,hd,by simpa using aA.LD I n ds vs its hn h2 rv⟩
 | 0,.tuple _,_,_,hn,_,_=>by simp[Y.nest] at hn
 | n,.bool _,_,_,hn,_,_=>by cases n <;> simp[Y.nest] at hn
 | n,.str _,_,_,hn,_,_=>by cases n <;> simp[Y.nest] at hn
 | n,.list _,_,_,hn,_,_=>by cases n <;> simp[Y.nest] at hn
 | n,.dict _,_,_,hn,_,_=>by cases n <;> simp[Y.nest] at hn
theorem aA.LD (I:Inv X pins σ H s):∀(n:Nat) (ds:List PyData) (vs:List V) (us:List Value),nests n ds=true->aA X.K H ds vs->Vals vs us->jM s.heap ds us
 | n,[],vs,us,_,h,r=>by
  simp only[aA] at h;subst h;cases r;simp only[jM]
 | n,d :: ds,vs,us,hn,h,r=>by
  rw[nests,KQ] at hn
  simp only[aA] at h
  obtain⟨v,w,rfl,h1,h2⟩:=h
  cases r with
  | cons r1 r2=>
   simp only[jM]
   exact⟨_,_,rfl,aJ.LD I n d v _ hn.1 h1 r1,aA.LD I n ds w _ hn.2 h2 r2⟩
end
end
section
variable {K:Frag}{H:Hp}
theorem jV:∀{kvs:List (PyData×PyData)} {ks:List (PyData×V×V)},a_ K H kvs ks->ks.map (·.1)=kvs.map (·.1)
 | [],ks,t=>by simp only[a_] at t;subst t;rfl
 | (k,d) :: r,ks,t=>by
  simp only[a_] at t
  obtain⟨kv,v,q,rfl,_,_,h3⟩:=t
  rw[KZ,KZ,jV h3]
end
theorem qc {k:PyData}(h:fM k=true):∃ds,k= .tuple ds/\nests 7 ds=true:=by
 cases k <;> first | exact⟨_,rfl,h⟩ | exact absurd h (by simp[fM])
mutual
theorem LF:∀(n:Nat) (d:PyData),nest n d=true->bL d=true
 | _,.int _,_=>rfl
 | _,.none,_=>rfl
 | n+1,.tuple ds,x=>by rw[Y.nest] at x;rw[bL];exact rf n ds x
 | 0,.tuple _,x=>by simp[Y.nest] at x
 | n,.bool _,x=>by cases n <;> simp[Y.nest] at x
 | n,.str _,x=>by cases n <;> simp[Y.nest] at x
 | n,.list _,x=>by cases n <;> simp[Y.nest] at x
 | n,.dict _,x=>by cases n <;> simp[Y.nest] at x
theorem rf:∀(n:Nat) (ds:List PyData),nests n ds=true->aq ds=true
 | _,[],_=>rfl
 | n,d :: ds,x=>by
  rw[nests,KQ] at x
  rw[aq,LF n d x.1,rf n ds x.2];rfl
end
theorem qd {k:PyData}(h:fM k=true):bL k=true:=by
 obtain⟨ds,rfl,h⟩:=qc h
 rw[bL];exact rf 7 ds h
theorem FH (x y:NK):PyData.eqv x.d y.d=decide (x=y):=by
 rw[Uz,J9]
 refine⟨λz=>NK.inj (uZ 8 _ _ x.n y.n z),λz=> ?_⟩
 rw[z];exact SeqAt.eqv_refl _ (lC 8 _ y.n)
def Rk (q:PyData×V×V)(x:NK×Addr×Value):Prop:=q.1=x.1.d/\q.2.1= .ref x.2.1/\RelV q.2.2 x.2.2
theorem zT:∀{ks:List (PyData×V×V)} {xs:List (NK×Addr×Value)},Paired Rk ks xs->ks.map (·.1)=xs.map (·.1.d)
 | _,_,.nil=>rfl
 | _,_,.cons r t=>by rw[KZ,KZ,r.1,zT t]
theorem Paired.len {α β:Type}{F:α->β->Prop}:∀{l:List α} {m:List β},Paired F l m->l.length=m.length
 | _,_,.nil=>rfl
 | _,_,.cons _ t=>by rw[Kv,Kv,Paired.len t]
theorem CM {ks:List (PyData×V×V)}{xs:List (NK×Addr×Value)}(p:Paired Rk ks xs):(ks.map (·.1)).Nodup↔(xs.map (·.1)).Nodup:=by
 rw[zT p]
 have e:xs.map (·.1.d)=(xs.map (·.1)).map NK.d:=by rw[X7];rfl
 rw[e]
 exact⟨λh=>List.Pairwise.of_map _ (λa b hab e=>hab (by rw[e])) h,λh=>List.Pairwise.map _ (λa b hab e=>hab (NK.inj e)) h⟩
section
variable {X:Cx}{pins:List (Addr×Obj)}{σ:St}{H:Hp}{s:Shared}
theorem LG (I:Inv X pins σ H s):∀{kvs:List (PyData×PyData)} {ks:List (PyData×V×V)} {es:List DictEntry},a_ X.K H kvs ks->(∀k∈ks,fM k.1=true)->
  Paired (λ(k:PyData×V×V) (e:DictEntry)=>e.hash=iK k.1/\RelV k.2.1 e.key/\RelV k.2.2 e.val) ks es->
  ∃xs,Paired Rk ks xs/\es=xs.map (entryOfKey (cC X.prog X.w))/\∀x∈xs,jF s.heap x.1.d (.ref x.2.1)
 | [],ks,es,t,_,p=>by
  simp only[a_] at t;subst t;cases p
  exact⟨[],.nil,rfl,λx hx=>by cases hx⟩
 | (k,d) :: r,ks,es,t,hk,p=>by
  simp only[a_] at t
  obtain⟨kv,v,q,rfl,h1,h2,h3⟩:=t
  cases p with
  | @cons _ e _ es' hp pt=>
   obtain⟨xs,p1,e1,k1⟩:=LG I h3 (λx hx=>hk x (K9 _ hx)) pt
   obtain⟨ds,rfl,hn⟩:=qc (hk _ K8)
   obtain⟨b,vs,rfl,g1,g2⟩:=aM h1
   obtain⟨eh,ek,ev⟩:=e
   obtain⟨q1,q2,q3⟩:=hp
   cases(show ek=Value.ref b from q2)
   have WZ:eh=iK (.tuple ds):=q1
   subst WZ
   refine⟨(⟨ds,hn⟩,b,ev) :: xs,.cons ⟨rfl,rfl,q3⟩ p1,by rw[e1];rfl,λx hx=> ?_⟩
   rcases K2.mp hx with rfl | hx
   ·exact aJ.LD I 8 (.tuple ds) (.ref b) (.ref b) (by rw[Y.nest];exact hn) h1 rfl
   ·exact k1 x hx
theorem zU {P:PyData->Bool}{kvs:List (PyData×PyData)}{ks:List (PyData×V×V)}(t:a_ X.K H kvs ks)(h:(kvs.all λp=>P p.1)=true):∀k∈ks,P k.1=true:=λk hk=>by
 have:k.1∈kvs.map (·.1):=by rw[←jV t];exact Y5 hk
 obtain⟨p,hp,e⟩:=Ky.mp this
 rw[←e];exact Uv.mp h p hp
theorem l6 (I:Inv X pins σ H s){a:Addr}{kvs:List (PyData×PyData)}{ks:NW}(e:Rd H a (.dct a ks))(t:a_ X.K H kvs ks.1)(ht:jv kvs=true) :
  ∃xs,s.heap.DictOfH (cC X.prog X.w) a xs/\Paired Rk ks.1 xs/\(a==sysModules)=false/\ks.1.length<=sizeLine/\∀x∈xs,jF s.heap x.1.d (.ref x.2.1):=by
 obtain⟨⟨hl,hs,hk,hn,o,es,ho,hc,hd,p⟩,_⟩:=(show gk X.prog X.w H s.heap a (.dct a ks) from e.ok I.hok)
 obtain⟨xs,p1,e1,k1⟩:=LG I t (zU t ht) p
 exact⟨xs,⟨o,es,ks.2,ho,hc,hd,e1,k1,(CM p1).mp hn⟩,p1,hs,hl,k1⟩
theorem Inv.big' (I:Inv X pins σ H s):sysModules < s.heap.objs.size:=by
 have h:mainGlobals < s.heap.objs.size:=(I.mod.glob.keeps I.bk).lt
 exact Nat.lt_trans (by decide) h
end
theorem l7 {P:Program}{w:World}{h':Heap}{a:Addr}:∀{ks:List (PyData×V×V)} {xs:List (NK×Addr×Value)},ks.length<=sizeLine->(a==sysModules)=false->Paired Rk ks xs->h'.DictOfH (cC P w) a xs->∃ep,uO a (ks,ep) h':=by
 intro ks xs hl hs p dd
 obtain⟨o,es,ep,ho,hc,hd,he,his,hn⟩:=dd
 have key:∀{ks:List (PyData×V×V)} {xs:List (NK×Addr×Value)},Paired Rk ks xs->(∀k∈ks,fM k.1=true)/\Paired (λ(k:PyData×V×V) (e:DictEntry)=>e.hash=iK k.1/\RelV k.2.1 e.key/\RelV k.2.2 e.val) ks (xs.map (entryOfKey (cC P w))):=by
  intro ks xs p
  induction p with
  | nil=>exact⟨(λk hk=>by cases hk),.nil⟩
  | @cons q x qs xs r t ih=>
   refine⟨λk hk=> ?_,?_⟩
   ·rcases K2.mp hk with rfl | hk
    ·rw[r.1];exact x.1.2
    ·exact ih.1 k hk
   ·exact .cons ⟨by rw[r.1];rfl,by rw[r.2.1];rfl,r.2.2⟩ ih.2
 obtain⟨k1,k2⟩:=key p
 exact⟨ep,hl,hs,.inl k1,(CM p).mpr hn,o,es,ho,hc,hd,by rw[he];exact k2⟩
theorem l8 {P:Program}{w:World}{H:Hp}{h':Heap}{a:Addr}{ks:NW}(h:uO a ks h'):gk P w H h' a (.dct a ks):=by
 refine⟨h,?_,λh1 h2 q k=> ?_⟩
 ·obtain⟨_,_,_,_,o,_,ho,_⟩:=h;exact⟨o,ho⟩
 ·obtain⟨a1,a2,a3,a4,o,es,ho,r⟩:=q
  exact⟨a1,a2,a3,a4,o,es,k o ho,r⟩
def xy (q:PyData×V×V)(x:Int×Value):Prop:=q.1= .int x.1/\q.2.1= .int x.1/\RelV q.2.2 x.2
theorem CN:∀{ks:List (PyData×V×V)} {xs:List (Int×Value)},Paired xy ks xs->ks.map (·.1)=xs.map λx=>PyData.int x.1
 | _,_,.nil=>rfl
 | _,_,.cons r t=>by rw[KZ,KZ,r.1,CN t]
theorem yK {ks:List (PyData×V×V)}{xs:List (Int×Value)}(p:Paired xy ks xs):(ks.map (·.1)).Nodup↔(xs.map (·.1)).Nodup:=by
 rw[CN p]
 have e:(xs.map λx=>PyData.int x.1)=(xs.map (·.1)).map PyData.int:=by rw[X7];rfl
 rw[e]
 exact⟨λh=>List.Pairwise.of_map _ (λa b hab e=>hab (by rw[e])) h,λh=>List.Pairwise.map _ (λa b hab e=>hab (PyData.int.inj e)) h⟩
theorem u4 {k:PyData}(h:Fz k=true):∃i,k= .int i:=by
 cases k <;> first | exact⟨_,rfl⟩ | exact absurd h (by simp[Fz])
section
variable {X:Cx}{pins:List (Addr×Obj)}{σ:St}{H:Hp}{s:Shared}
theorem Ht:∀{kvs:List (PyData×PyData)} {ks:List (PyData×V×V)} {es:List DictEntry},a_ X.K H kvs ks->(∀k∈ks,Fz k.1=true)->
  Paired (λ(k:PyData×V×V) (e:DictEntry)=>e.hash=iK k.1/\RelV k.2.1 e.key/\RelV k.2.2 e.val) ks es->
  ∃xs,Paired xy ks xs/\Pairs (intKind X.prog X.w) es xs/\∀e∈es,∃k,(intKind X.prog X.w).is k e.key=true/\e.hash=(intKind X.prog X.w).hash k
 | [],ks,es,t,_,p=>by
  simp only[a_] at t;subst t;cases p
  exact⟨[],.nil,.nil,λe he=>by cases he⟩
 | (k,d) :: r,ks,es,t,hk,p=>by
  simp only[a_] at t
  obtain⟨kv,v,q,rfl,h1,h2,h3⟩:=t
  cases p with
  | @cons _ e _ es' hp pt=>
   obtain⟨xs,p1,e1,k1⟩:=Ht h3 (λx hx=>hk x (K9 _ hx)) pt
   obtain⟨i,rfl⟩:=u4 (hk _ K8)
   have:=aF h1
   subst this
   obtain⟨q1,⟨tk,q2⟩,q3⟩:=hp
   have hi:(intKind X.prog X.w).is i e.key=true:=by rw[q2];simp[intKind,Value.isInt]
   refine⟨(i,e.val) :: xs,.cons ⟨rfl,rfl,q3⟩ p1,.cons hi rfl e1,λx hx=> ?_⟩
   rcases K2.mp hx with z | z
   ·subst z;exact⟨i,hi,q1⟩
   ·exact k1 x z
theorem l_ (I:Inv X pins σ H s){a:Addr}{kvs:List (PyData×PyData)}{ks:NW}(e:Rd H a (.dct a ks))(t:a_ X.K H kvs ks.1)(ht:allI kvs=true) :
  ∃xs,s.heap.DictOf (intKind X.prog X.w) a xs/\Paired xy ks.1 xs/\(a==sysModules)=false/\ks.1.length<=sizeLine:=by
 obtain⟨⟨hl,hs,hk,hn,o,es,ho,hc,hd,p⟩,_⟩:=(show gk X.prog X.w H s.heap a (.dct a ks) from e.ok I.hok)
 obtain⟨xs,p1,e1,k1⟩:=Ht t (zU t ht) p
 exact⟨xs,⟨o,es,ks.2,ho,hc,hd,λe he=>k1 e (by simpa using he),e1,(yK p1).mp hn⟩,p1,hs,hl⟩
end
theorem u5 {P:Program}{w:World}{h':Heap}{a:Addr}{ks:List (PyData×V×V)}{xs:List (Int×Value)}(hl:ks.length<=sizeLine)(hs:(a==sysModules)=false)(p:Paired xy ks xs)(dd:h'.DictOf (intKind P w) a xs):∃ep,uO a (ks,ep) h':=by
 obtain⟨o,es,ep,ho,hc,hd,hk,hp,hn⟩:=dd
 have key:∀{ks:List (PyData×V×V)} {xs:List (Int×Value)} {es:List DictEntry},Paired xy ks xs->Pairs (intKind P w) es xs->(∀e∈es,∃k,(intKind P w).is k e.key=true/\e.hash=(intKind P w).hash k)->
   (∀k∈ks,Fz k.1=true)/\Paired (λ(k:PyData×V×V) (e:DictEntry)=>e.hash=iK k.1/\RelV k.2.1 e.key/\RelV k.2.2 e.val) ks es:=by
  intro ks xs es p
  induction p generalizing es with
  | nil=>intro q _;cases q;exact⟨(λk hk=>by cases hk),.nil⟩
  | @cons q x qs xs r t ih=>
   intro pq hk
   cases pq with
   | @cons e _ es' _ h1 h2 h3=>
    obtain⟨i1,i2⟩:=ih h3 λe he=>hk e (K9 _ he)
    obtain⟨k,k1,k2⟩:=hk e K8
    have:k=x.1:=(intKind P w).inj _ _ _ k1 h1
    subst this
    obtain⟨tk,et⟩:=Value.isInt_shape h1
    refine⟨λz hz=> ?_,.cons ⟨by rw[r.1];exact k2,by rw[r.2.1];exact⟨tk,et⟩,by rw[h2];exact r.2.2⟩ i2⟩
    rcases K2.mp hz with rfl | hz
    ·rw[r.1];rfl
    ·exact i1 z hz
 obtain⟨k1,k2⟩:=key p hp λe he=>hk e (by simpa using he)
 exact⟨ep,hl,hs,.inr k1,(yK p).mpr hn,o,es,ho,hc,hd,k2⟩
def qe (ks:List (PyData×V×V))(k:PyData)(kv v:V):List (PyData×V×V):=if (ks.any λp=>PyData.eqv p.1 k)=true then ks.map λp=>if PyData.eqv p.1 k=true then (p.1,p.2.1,v) else p else ks++[(k,kv,v)]
def u6 (ks ms:List (PyData×V×V)):List (PyData×V×V):=ms.foldl (λacc p=>qe acc p.1 p.2.1 p.2.2) ks
theorem oJ (k:NK):∀{ks:List (PyData×V×V)} {xs:List (NK×Addr×Value)},Paired Rk ks xs->(atKey xs k).isSome=ks.any λq=>PyData.eqv q.1 k.d
 | _,_,.nil=>rfl
 | _,_,.cons (a:=q) (b:=x) r t=>by
  have ih:=oJ k t
  rw[Y1,r.1,FH,←ih]
  unfold atKey
  rw[XW]
  cases hd:decide (x.1=k) <;> simp
theorem u7 {f:PyData×V×V->PyData×V×V}{g:NK×Addr×Value->NK×Addr×Value}(h:∀q x,Rk q x->Rk (f q) (g x)):∀{ks:List (PyData×V×V)} {xs:List (NK×Addr×Value)},Paired Rk ks xs->Paired Rk (ks.map f) (xs.map g)
 | _,_,.nil=> .nil
 | _,_,.cons r t=> .cons (h _ _ r) (u7 h t)
theorem ng {q:PyData×V×V}{x:NK×Addr×Value}(h:Rk q x):∀{ks:List (PyData×V×V)} {xs:List (NK×Addr×Value)},Paired Rk ks xs->Paired Rk (ks++[q]) (xs++[x])
 | _,_,.nil=> .cons h .nil
 | _,_,.cons r t=> .cons r (ng h t)
theorem u9 {ks:List (PyData×V×V)}{xs:List (NK×Addr×Value)}(p:Paired Rk ks xs)(k:NK)(a:Addr){v:V}{u:Value}(rv:RelV v u):Paired Rk (qe ks k.d (.ref a) v) (storedH xs k a u):=by
 unfold qe storedH
 rw[oJ k p]
 split
 ·refine u7 (λq x r=> ?_) p
  unfold putAt
  rw[r.1,FH]
  by_cases hx:x.1=k
  ·rw[J5 (J4 hx),J5 hx];exact⟨rfl,r.2.1,rv⟩
  ·rw[J6 (by rw[J3 hx];exact K3),J6 hx];exact r
 ·exact ng ⟨rfl,rfl,rv⟩ p
theorem sj:∀{ms:List (PyData×V×V)} {ys:List (NK×Addr×Value)},Paired Rk ms ys->∀{ks:List (PyData×V×V)} {xs:List (NK×Addr×Value)},Paired Rk ks xs->Paired Rk (u6 ks ms) (ij xs ys)
 | _,_,.nil,_,_,p=>p
 | _,_,.cons (a:=q) (b:=y) r t,ks,xs,p=>by
  have h1:=u9 p y.1 y.2.1 r.2.2
  rw[←r.1,←r.2.1] at h1
  exact sj t h1
theorem QV (i j:Int):PyData.eqv (.int i) (.int j)=decide (i=j):=by
 have:PyData.eqv (.int i) (.int j)=(i==j):=by simp[PyData.eqv]
 rw[this,Uz];simp
theorem qf (k:Int):∀{ks:List (PyData×V×V)} {xs:List (Int×Value)},Paired xy ks xs->(valueAt xs k).isSome=(ks.any λq=>PyData.eqv q.1 (.int k))/\(xs.any λkv=>decide (kv.1=k))=(ks.any λq=>PyData.eqv q.1 (.int k))
 | _,_,.nil=>⟨rfl,rfl⟩
 | _,_,.cons (a:=q) (b:=x) r t=>by
  obtain⟨h1,h2⟩:=qf k t
  rw[Y1,Y1,r.1,QV,←h2]
  refine⟨?_,rfl⟩
  rw[h2,←h1]
  unfold valueAt
  rw[XW]
  cases hd:decide (x.1=k) <;> simp[hd]
theorem sk {f:PyData×V×V->PyData×V×V}{g:Int×Value->Int×Value}(h:∀q x,xy q x->xy (f q) (g x)):∀{ks:List (PyData×V×V)} {xs:List (Int×Value)},Paired xy ks xs->Paired xy (ks.map f) (xs.map g)
 | _,_,.nil=> .nil
 | _,_,.cons r t=> .cons (h _ _ r) (sk h t)
theorem qg {q:PyData×V×V}{x:Int×Value}(h:xy q x):∀{ks:List (PyData×V×V)} {xs:List (Int×Value)},Paired xy ks xs->Paired xy (ks++[q]) (xs++[x])
 | _,_,.nil=> .cons h .nil
 | _,_,.cons r t=> .cons r (qg h t)
theorem sq {ks:List (PyData×V×V)}{xs:List (Int×Value)}(p:Paired xy ks xs)(k:Int){v:V}{u:Value}(rv:RelV v u):Paired xy (qe ks (.int k) (.int k) v) (stored xs k u):=by
 unfold qe stored
 rw[(qf k p).2]
 split
 ·refine sk (λq x r=> ?_) p
  rw[r.1,QV]
  by_cases hx:x.1=k
  ·rw[J5 (J4 hx),J5 hx];exact⟨rfl,r.2.1,rv⟩
  ·rw[J6 (by rw[J3 hx];exact K3),J6 hx];exact r
 ·exact qg ⟨rfl,rfl,rv⟩ p
theorem qh:∀{ms:List (PyData×V×V)} {ys:List (Int×Value)},Paired xy ms ys->∀{ks:List (PyData×V×V)} {xs:List (Int×Value)},Paired xy ks xs->Paired xy (u6 ks ms) (merged xs ys)
 | _,_,.nil,_,_,p=>p
 | _,_,.cons (a:=q) (b:=y) r t,ks,xs,p=>by
  have h1:=sq p y.1 r.2.2
  rw[←r.1,←r.2.1] at h1
  exact qh t h1
theorem u_ (ks:List (PyData×V×V))(k:PyData)(kv v:V):(qe ks k kv v).length<=ks.length+1:=by
 unfold qe;split
 ·rw[K4];omega
 ·rw[Kx,X8];exact Ku _
theorem yL:∀(ms ks:List (PyData×V×V)),(u6 ks ms).length<=ks.length+ms.length
 | [],ks=>Ku _
 | m :: ms,ks=>by
  have h1:=yL ms (qe ks m.1 m.2.1 m.2.2)
  have h2:=u_ ks m.1 m.2.1 m.2.2
  show(u6 (qe ks m.1 m.2.1 m.2.2) ms).length<=_
  rw[Kv];omega
section
variable {K:Frag}{H:Hp}
theorem jr {kvs:List (PyData×PyData)}{ks:List (PyData×V×V)}(t:a_ K H kvs ks):ks.length=kvs.length:=by
 have:=congrArg List.length (jV t);simpa using this
theorem nh {kvs:List (PyData×PyData)}{ks:List (PyData×V×V)}(t:a_ K H kvs ks)(k:PyData):(ks.any λq=>PyData.eqv q.1 k)=pw kvs k:=by
 have h1:∀{α:Type} (l:List (PyData×α)),(l.any λq=>PyData.eqv q.1 k)=(l.map (·.1)).any λx=>PyData.eqv x k:=λl=>by rw[List.any_map];rfl
 unfold pw
 rw[h1,h1,jV t]
theorem va {k d:PyData}{v:V}(hv:aJ K H d v):∀{kvs:List (PyData×PyData)} {ks:List (PyData×V×V)},a_ K H kvs ks->
  a_ K H (kvs.map λp=>if PyData.eqv p.1 k=true then (p.1,d) else p) (ks.map λp=>if PyData.eqv p.1 k=true then (p.1,p.2.1,v) else p)
 | [],ks,t=>by simp only[a_] at t;subst t;simp only[Yx,a_]
 | (k',d') :: r,ks,t=>by
  simp only[a_] at t
  obtain⟨kv,v',q,rfl,h1,h2,h3⟩:=t
  rw[KZ,KZ]
  by_cases he:PyData.eqv k' k=true
  ·simp only[J5 he,a_];exact⟨kv,v,_,rfl,h1,hv,va hv h3⟩
  ·simp only[J6 he,a_];exact⟨kv,v',_,rfl,h1,h2,va hv h3⟩
theorem yM {k d:PyData}{kv v:V}(hk:aJ K H k kv)(hv:aJ K H d v):∀{kvs:List (PyData×PyData)} {ks:List (PyData×V×V)},a_ K H kvs ks->a_ K H (kvs++[(k,d)]) (ks++[(k,kv,v)])
 | [],ks,t=>by simp only[a_] at t;subst t;simp only[Y4,a_];exact⟨kv,v,[],rfl,hk,hv,rfl⟩
 | (k',d') :: r,ks,t=>by
  simp only[a_] at t
  obtain⟨kv',v',q,rfl,h1,h2,h3⟩:=t
  rw[U8,U8]
  simp only[a_]
  exact⟨kv',v',_,rfl,h1,h2,yM hk hv h3⟩
theorem vb {kvs:List (PyData×PyData)}{ks:List (PyData×V×V)}{k d:PyData}{kv v:V}(t:a_ K H kvs ks)(hk:aJ K H k kv)(hv:aJ K H d v):a_ K H (putK kvs k d) (qe ks k kv v):=by
 unfold putK qe
 rw[nh t]
 split
 ·exact va hv t
 ·exact yM hk hv t
theorem yN:∀{more:List (PyData×PyData)} {ms:List (PyData×V×V)},a_ K H more ms->∀{kvs:List (PyData×PyData)} {ks:List (PyData×V×V)},a_ K H kvs ks->a_ K H (se kvs more) (u6 ks ms)
 | [],ms,t,kvs,ks,h=>by simp only[a_] at t;subst t;exact h
 | (k,d) :: r,ms,t,kvs,ks,h=>by
  simp only[a_] at t
  obtain⟨kv,v,q,rfl,h1,h2,h3⟩:=t
  exact yN h3 (vb h h1 h2)
theorem oK:∀{kvs:List (PyData×PyData)} {ks:List (PyData×V×V)},a_ K H kvs ks->(∀p∈kvs,bL p.1=true)->gB kvs=true->aR K H kvs ks []
 | [],ks,t,_,_=>by simp only[a_] at t;subst t;simp only[aR];exact⟨trivial,trivial⟩
 | (k,d) :: r,ks,t,hk,hn=>by
  simp only[a_] at t
  obtain⟨kv,v,q,rfl,h1,h2,h3⟩:=t
  have hn':bL d=true/\gB r=true:=by
   unfold gB at hn;rw[KZ,aq,KQ] at hn;exact hn
  simp only[aR]
  exact⟨kv,v,q,[],[],rfl,rfl,aJ.toT _ _ (hk _ K8) h1,aJ.toT _ _ hn'.1 h2,oK h3 (λp hp=>hk p (K9 _ hp)) hn'.2⟩
theorem qi:∀{kvs:List (PyData×PyData)} {ks:List (PyData×V×V)} {as:List Addr},aR K H kvs ks as->gB kvs=true->as=[]
 | [],ks,as,t,_=>by simp only[aR] at t;exact t.2
 | (k,d) :: r,ks,as,t,hn=>by
  simp only[aR] at t
  obtain⟨kv,v,q,a1,a2,rfl,rfl,h1,h2,h3⟩:=t
  have hn':bL d=true/\gB r=true:=by
   unfold gB at hn;rw[KZ,aq,KQ] at hn;exact hn
  rw[IsT.nil _ _ _ hn'.1 h2,qi h3 hn'.2];rfl
end
section
variable {K:Frag}{H:Hp}
mutual
theorem IsT.vc:∀(d:PyData) (v:V) (as:List Addr),IsT K H d v as->as=[]->bL d=true
 | .none,_,_,_,_=>rfl
 | .bool _,_,_,_,_=>rfl
 | .int _,_,_,_,_=>rfl
 | .str _,_,_,_,_=>rfl
 | .list xs,v,as,h,e=>by obtain⟨a,vs,bs,_,_,_,z⟩:=dE h;rw[e] at z;cases z
 | .dict xs,v,as,h,e=>by obtain⟨a,vs,bs,_,_,_,z⟩:=fO h;rw[e] at z;cases z
 | .tuple xs,v,as,h,e=>by
  obtain⟨a,vs,_,_,h2⟩:=lV h
  rw[bL];exact aE.vc xs vs as h2 e
theorem aE.vc:∀(ds:List PyData) (vs:List V) (as:List Addr),aE K H ds vs as->as=[]->aq ds=true
 | [],_,_,_,_=>rfl
 | d :: ds,vs,as,h,e=>by
  simp only[aE] at h
  obtain⟨v,r,a1,a2,rfl,rfl,h1,h2⟩:=h
  have:=List.append_eq_nil_iff.mp e
  rw[aq,IsT.vc d v a1 h1 this.1,aE.vc ds r a2 h2 this.2];rfl
end
theorem ux:∀{kvs:List (PyData×PyData)} {ks:List (PyData×V×V)} {as:List Addr},aR K H kvs ks as->∀p∈kvs,bL p.1=true
 | [],ks,as,t,p,hp=>by cases hp
 | (k,d) :: r,ks,as,t,p,hp=>by
  simp only[aR] at t
  obtain⟨kv,v,q,a1,a2,rfl,rfl,h1,h2,h3⟩:=t
  rcases K2.mp hp with rfl | hp
  ·exact IsT.vc _ _ _ h1 rfl
  ·exact ux h3 p hp
end
theorem vd {kvs:List (PyData×PyData)}{k d:PyData}(h:gB kvs=true)(hd:bL d=true):gB (putK kvs k d)=true:=by
 unfold gB at h⊢
 rw[a6] at h⊢
 intro x hx
 unfold putK at hx
 split at hx
 ·rw[X7] at hx
  obtain⟨p,hp,rfl⟩:=Ky.mp hx
  simp only[Function.comp]
  split
  ·exact hd
  ·exact h _ (Y5 hp)
 ·rw[X6] at hx
  rcases Kk.mp hx with hx | hx
  ·exact h x hx
  ·have:x=d:=by simpa using hx
   rw[this];exact hd
theorem yO:∀{more kvs:List (PyData×PyData)},gB more=true->gB kvs=true->gB (se kvs more)=true
 | [],kvs,_,h=>h
 | (k,d) :: r,kvs,hm,h=>by
  have hn':bL d=true/\gB r=true:=by
   unfold gB at hm;rw[KZ,aq,KQ] at hm;exact hm
  exact yO (kvs:=putK kvs k d) hn'.2 (vd h hn'.1)
end L2
namespace L2
open PySem PySem.Spec PyProof.Rows Y
section
variable {X:Cx}{K:Frag}{Ew:Str->Hp->Prop}
theorem jW {kvs:oZ}{x:PyData}(h:gA kvs x=true):(∃ds,x= .tuple ds/\nests 7 ds=true/\jv kvs=true)∨(∃i,x= .int i/\allI kvs=true):=by
 unfold gA at h
 rw[Bool.or_eq_true,KQ,KQ] at h
 rcases h with⟨a,b⟩ | ⟨a,b⟩
 ·obtain⟨ds,e,n⟩:=qc a;exact .inl ⟨ds,e,n,b⟩
 ·obtain⟨i,e⟩:=u4 a;exact .inr ⟨i,e,b⟩
theorem QW (hu:X.A.units+80 < cLine){pins:List (Addr×Obj)}{s:Shared}{σ:St}{H:Hp}{x:PyData}{kvs:oZ}{u v:V}{a b:Value}{Q:VK}(I:Inv X pins σ H s)(hk:gA kvs x=true)(hx:aJ X.K H x u)(hy:aJ X.K H (.dict kvs) v)(ru:RelV u a)(rv:RelV v b)
  (q:∀w H',Same H H'->aX X.K H H' (.bool (pw kvs x)) w->Q w H'):wpAny (model X.prog X.w) X.A (compareOp .In a b) (EP X pins σ Q) X.xe s:=by
 obtain⟨ad,ks,rfl,hr,t⟩:=eE hy
 cases(show b=Value.ref ad from rv)
 rcases jW hk with⟨ds,rfl,hn,ht⟩ | ⟨i,rfl,ht⟩
 ·obtain⟨xs,dd,p,hs,hl,_⟩:=l6 I hr t ht
  obtain⟨bk,vs,rfl,g1,g2⟩:=aM hx
  cases(show a=Value.ref bk from ru)
  obtain⟨kk,hkk⟩:∃kk:NK,kk.d= .tuple ds:=⟨⟨ds,hn⟩,rfl⟩
  have zV:jF s.heap kk.d (.ref bk):=by rw[hkk];exact aJ.LD I 8 (.tuple ds) (.ref bk) (.ref bk) (by rw[Y.nest];exact hn) hx rfl
  refine wpAny_in_heap (knd:=cC X.prog X.w) (k:=kk) (show X.A.units+1+10 < cLine by omega) zV hs dd ?_
  rw[oJ _ p,nh t,hkk]
  exact⟨.bl _,H,I.tok _,rfl,q _ H (Same.refl H) (aX.oC rfl dD)⟩
 ·obtain⟨xs,dd,p,hs,hl⟩:=l_ I hr t ht
  have:=aF hx
  subst this
  obtain⟨tk,rfl⟩:=ru
  refine wpAny_in_of (knd:=intKind X.prog X.w) (k:=i) (by simp[intKind,Value.isInt]) hs dd.mapOf ?_
  rw[(qf i p).1,nh t]
  exact⟨.bl _,H,I.tok _,rfl,q _ H (Same.refl H) (aX.oC rfl dD)⟩
theorem IE (hu:X.A.units+80 < cLine){pins:List (Addr×Obj)}{s:Shared}{σ:St}{H:Hp}{x:PyData}{kvs:oZ}{u v:V}{a b:Value}{Q:VK}(I:Inv X pins σ H s)(hk:gA kvs x=true)(hx:aJ X.K H x u)(hy:aJ X.K H (.dict kvs) v)(ru:RelV u a)(rv:RelV v b)
  (q:∀w H',Same H H'->aX X.K H H' (.bool (!pw kvs x)) w->Q w H'):wpAny (model X.prog X.w) X.A (compareOp .NotIn a b) (EP X pins σ Q) X.xe s:=by
 obtain⟨ad,ks,rfl,hr,t⟩:=eE hy
 cases(show b=Value.ref ad from rv)
 rcases jW hk with⟨ds,rfl,hn,ht⟩ | ⟨i,rfl,ht⟩
 ·obtain⟨xs,dd,p,hs,hl,_⟩:=l6 I hr t ht
  obtain⟨bk,vs,rfl,g1,g2⟩:=aM hx
  cases(show a=Value.ref bk from ru)
  obtain⟨kk,hkk⟩:∃kk:NK,kk.d= .tuple ds:=⟨⟨ds,hn⟩,rfl⟩
  have zV:jF s.heap kk.d (.ref bk):=by rw[hkk];exact aJ.LD I 8 (.tuple ds) (.ref bk) (.ref bk) (by rw[Y.nest];exact hn) hx rfl
  refine wpAny_notIn_heap (knd:=cC X.prog X.w) (k:=kk) (show X.A.units+1+10 < cLine by omega) zV hs dd ?_
  rw[oJ _ p,nh t,hkk]
  exact⟨.bl _,H,I.tok _,rfl,q _ H (Same.refl H) (aX.oC rfl dD)⟩
 ·obtain⟨xs,dd,p,hs,hl⟩:=l_ I hr t ht
  have:=aF hx
  subst this
  obtain⟨tk,rfl⟩:=ru
  refine wpAny_notIn_of (knd:=intKind X.prog X.w) (k:=i) (by simp[intKind,Value.isInt]) hs dd.mapOf ?_
  rw[(qf i p).1,nh t]
  exact⟨.bl _,H,I.tok _,rfl,q _ H (Same.refl H) (aX.oC rfl dD)⟩
theorem Hu (hu:X.A.units+80 < cLine):jK X (compareOp .In) Cp:=jK.of λpins s σ H x y z u v a b Q I e hx hy ru rv q=>by
 cases y with
 | dict kvs=>
  simp only[Cp] at e
  split at e
  ·rename_i hk
   cases e
   exact QW hu I hk hx hy ru rv q
  ·cases e
 | _=>
  obtain⟨r,op,lift⟩:=uR (X:=X) hu
  refine op pins s σ H u v a b Q I ru rv (lift x _ z u v H Q ?_ hx hy q)
  exact e
theorem pH (hu:X.A.units+80 < cLine):jK X (compareOp .NotIn) fZ:=jK.of λpins s σ H x y z u v a b Q I e hx hy ru rv q=>by
 cases y with
 | dict kvs=>
  simp only[fZ] at e
  split at e
  ·rename_i hk
   cases e
   exact IE hu I hk hx hy ru rv q
  ·cases e
 | _=>
  obtain⟨r,op,lift⟩:=lx (X:=X) hu
  refine op pins s σ H u v a b Q I ru rv (lift x _ z u v H Q ?_ hx hy q)
  exact e
theorem CO:kz X (.type "dict") (λus H Q=>∃a kvs ks,us=[.ref a]/\Rd H a (.dct a ks)/\a_ X.K H kvs ks.1/\jv kvs=true/\kvs.isEmpty=false/\(kvs.map λp=>iK p.1).Nodup/\∀l ep,H l=none->Q (.ref l) (upd H l (.dct l (ks.1,ep)))):=by
 intro pins s σ H us vs Q I r h
 obtain⟨a,kvs,ks,rfl,hr,t,hat,h0,hh,q⟩:=h
 obtain⟨u,rfl,rx⟩:=vals1 r
 cases(show u=Value.ref a from rx)
 obtain⟨xs,dd,p,hs,hl,hk⟩:=l6 I hr t hat
 have hpl:=Paired.len p
 have hkl:=jr t
 have hx0:xs≠[]:=λz=>by
  rw[z] at hpl
  have:kvs.length=0:=by rw[←hkl,hpl];rfl
  rw[Yj.mp this] at h0;cases h0
 refine S9 (knd:=cC X.prog X.w) hs dd hx0 (by omega) (λx hx=> ?_) ?_ (λx hx=> ?_) λh' yP sb=> ?_
 ·have:=hk x hx
  simp only[NK.d,jF] at this
  obtain⟨b,o,items,n,e,h1,h2,_⟩:=this
  cases e
  exact⟨o,h1,h2⟩
 ·have e1:(xs.map λx=>(cC X.prog X.w).hash x.1)=(ks.1.map (·.1)).map iK:=by rw[zT p,X7];rfl
  rw[e1,jV t,X7];exact hh
 ·exact jF.keep (λb o items n hb _=>K6 _ hb) _ _ (hk x hx)
 ·obtain⟨ep,ph⟩:=l7 hl (beq_eq_false_iff_ne.mpr (Ne.symm (X1 I.big'))) p yP
  refine⟨.ref s.heap.objs.size,_,I.laid (a:=s.heap.objs.size) (o:=.dct s.heap.objs.size (ks.1,ep)) (t':=s.toks) (λb u hb=> ?_) (Ku _) (l8 ph),rfl,q _ ep I.fresh⟩
  exact(sb.2 b (X1 (KU hb))).trans (K6 _ hb)
theorem N6 {kvs:List (PyData×PyData)}{ks:List (PyData×V×V)}{H:Hp}(t:a_ K H kvs ks)(hk:∀k∈ks,fM k.1=true):∀p∈kvs,bL p.1=true:=λp hp=>by
 have:p.1∈ks.map (·.1):=by rw[jV t];exact Y5 hp
 obtain⟨k,hk1,e⟩:=Ky.mp this
 rw[←e];exact qd (hk k hk1)
theorem FI:CallD X (.type "dict") uq:=⟨_,CO,
 λxs z us H Q e h q=>by
  match xs,e,h with
  | [.dict kvs],e,h=>
   simp only[uq] at e
   split at e
   ·rename_i hc
    cases e
    obtain⟨u,rfl,hu⟩:=ii h
    obtain⟨a,ks,rfl,hr,t⟩:=eE hu
    have hk:=zU (X:=X) t hc.2.1
    exact⟨a,kvs,ks,rfl,hr,t,hc.2.1,hc.1,hc.2.2.2,λl ep hl=>q _ _ (Same.upd hl) ⟨[l],jJ aB (oK (a_.same (Same.upd hl) _ _ t) (N6 t hk) hc.2.2.1),KJ.mpr ⟨by simp,X3⟩,λb hb=>by rw[K7.mp hb];exact hl⟩⟩
   ·cases e⟩
end
section
variable {X:Cx}{K:Frag}{Ew:Str->Hp->Prop}{pos pos2 p p2:Pos}{a e o j:Expr}{ta:TE}{fa fe fj:EF}{apos cpos:Pos}
def S_ (K:Frag):V->V->V->Hp->(Hp->Prop)->Prop:=λo i v H Q=>∃a ks kvs k,o= .ref a/\H a=some (.dct a ks)/\a_ K H kvs ks.1/\aJ K H k i/\gA kvs k=true/\ks.1.length < sizeLine/\∀ep,Q (upd H a (.dct a (qe ks.1 k i v,ep)))
theorem Hv (hu:X.A.units+80 < cLine):Qd X (S_ X.K):=by
 intro pins s σ H o i v ov iv u Q I ro ri rv h
 obtain⟨a,ks,kvs,k,rfl,hH,t,hk,hkt,hl,q⟩:=h
 cases(show ov=Value.ref a from ro)
 rcases jW hkt with⟨ds,rfl,hn,ht⟩ | ⟨n,rfl,ht⟩
 ·obtain⟨b,vs,rfl,_,_⟩:=aM hk
  cases(show iv=Value.ref b from ri)
  obtain⟨xs,dd,p,hs,hl0,_⟩:=l6 I (.inl hH) t ht
  have hpl:=Paired.len p
  obtain⟨kk,hkk⟩:∃kk:NK,kk.d= .tuple ds:=⟨⟨ds,hn⟩,rfl⟩
  have zV:jF s.heap kk.d (.ref b):=by rw[hkk];exact aJ.LD I 8 (.tuple ds) (.ref b) (.ref b) (by rw[Y.nest];exact hn) hk rfl
  refine wpAny_setItem_heap (knd:=cC X.prog X.w) (k:=kk) (hsz:=by omega) (show X.A.units+1+10 < cLine by omega) zV dd λh' yP sb=> ?_
  have hp:=u9 p kk b rv
  rw[hkk] at hp
  have hlen:=u_ ks.1 (.tuple ds) (.ref b) v
  obtain⟨ep,ph⟩:=l7 (by omega) hs hp yP
  refine⟨_,I.write (x:=a) (e:=a) (by rw[hH];trivial) (.inl rfl) (λc w hc hw=>(sb.2 c hc).trans hw) ?_ (l8 ph),q ep⟩
  obtain⟨ob,_,_,ho,_⟩:=yP
  exact⟨ob,ho⟩
 ·have:=aF hk
  subst this
  obtain⟨tk,rfl⟩:=ri
  obtain⟨xs,dd,p,hs,hl0⟩:=l_ I (.inl hH) t ht
  have hpl:=Paired.len p
  refine wpAny_setItem_pairs (knd:=intKind X.prog X.w) (k:=n) (hsz:=by omega) (by simp[intKind,Value.isInt]) dd λh' yP sb=> ?_
  have hp:=sq p n rv
  have hlen:=u_ ks.1 (.int n) (.int n) v
  obtain⟨ep,ph⟩:=u5 (by omega) hs hp yP
  refine⟨_,I.write (x:=a) (e:=a) (by rw[hH];trivial) (.inl rfl) (λc w hc hw=>(sb.2 c hc).trans hw) ?_ (l8 ph),q ep⟩
  obtain⟨ob,_,_,ho,_⟩:=yP
  exact⟨ob,ho⟩
theorem zW {kvs:oZ}{x:PyData}(h:gA kvs x=true):bL x=true:=by
 rcases jW h with⟨ds,rfl,hn,_⟩ | ⟨i,rfl,_⟩
 ·exact qd hn
 ·rfl
theorem N7 (hu:X.A.units+80 < cLine){i:Nat}(ho:PE X o (pd i))(hj:DE X K Ew j fj)(he:DE X K Ew e fe)(hK:X.K=K:=by rfl)
  (ha:∀v,assign (.Subscript o j p) X.env v=(do
   let ov←holding [v] (eval o X.env)
   let iv←holding [v,ov] (eval j X.env)
   standAt p
   holding [v,ov,iv] (setItem ov iv v)
   release [v,ov,iv] []):=by intro _;rfl)
  (hs:swapsWithSole [.Subscript o j p] e pos.line X.env=pure false:=by rfl) (hw:swappedStores [.Subscript o j p] e X.env=pure none:=by rfl)
  (h1:(assignEach [.Subscript o j p] X.env).map (·.2)=[assign (.Subscript o j p) X.env]:=by rfl):DS X K Ew (.Assign [.Subscript o j p] e pos) (uN i fj fe) :=
 (zl he (Fe ho hj (Hv hu) ha) hs hw h1).imp λD σ H q=>
  jq (g:=λx Γ=>match Γ[i]? with
   | some (some (true,.dict kvs))=>ar (fj Γ) λy=>if gA kvs y.2=true/\bL x.2=true/\gB kvs=true/\kvs.length < sizeLine then ah (.nx (Γ.set i (some (true,.dict (putK kvs y.2 x.2))))) else none
   | _=>none) q λB φ Γ k d y H1 r av q=>by
   subst hK
   match hg:Γ[i]?,q with
   | some (some (true,.dict kvs)),q=>
    obtain⟨v,hv,hT⟩:=r.own hg
    obtain⟨l,ks,bs,rfl,hl,ht,hφ⟩:=fO hT
    have hli:l∈φ i:=by rw[hφ];exact K8
    refine⟨.ref l,hv,B,φ,Γ,r,?_⟩
    match hm:fj Γ,q with
    | some (.ok (k',d')),q=>
     refine .inl ⟨k',d',rfl,λw H2 s2 hw=> ?_⟩
     have r2:=r.same s2
     replace q:fB X.K Ew B (if gA kvs d'=true/\bL d=true/\gB kvs=true/\kvs.length < sizeLine then ah (.nx (Γ.set i (some (true,.dict (putK kvs d' d))))) else none) D:=q
     by_cases hc:gA kvs d'=true/\bL d=true/\gB kvs=true/\kvs.length < sizeLine
     ·rw[J5 hc] at q
      obtain⟨c1,c2,c3,c4⟩:=hc
      have hbs:bs=[]:=qi ht c3
      subst hbs
      have hdk:=a_.same s2 _ _ (aR.toD _ _ _ ht)
      have hkd:=hw.toD r2.bs
      have hdd:=aJ.same s2 _ _ (av.toD r.bs)
      refine⟨l,ks,kvs,d',rfl,s2 _ _ hl,hdk,hkd,c1,by rw[jr hdk];exact c4,λep=> ?_⟩
      have hkn:∀p∈kvs,bL p.1=true:=λp hp=>by
       have:=ht
       exact ux ht p hp
      have QX:=vb hdk hkd hdd
      have hn2:∀p∈putK kvs d' d,bL p.1=true:=λp hp=>by
       unfold putK at hp
       split at hp
       ·obtain⟨q',hq',rfl⟩:=Ky.mp hp
        split
        ·exact hkn q' hq'
        ·exact hkn q' hq'
       ·rcases Kk.mp hp with hp | hp
        ·exact hkn p hp
        ·rw[K7.mp hp];exact zW c1
      have hnew:=aR.upd (o':=.dct l (qe ks.1 d' w y,ep)) (s2 _ _ hl) trivial _ _ _ (show l∉[] by simp) (oK QX hn2 (vd c3 c2))
      exact q B _ σ _ (Same.refl B) (r2.chg (d:=.dict (putK kvs d' d)) (as:=[l]) hli (s2 _ _ hl) trivial hv (jJ aB hnew) (KJ.mpr ⟨by simp,X3⟩) (λa ha=> .inl (by rw[K7.mp ha];exact hli)) trivial)
     ·rw[J6 hc] at q
      exact False.elim q
    | some (.ex c),q=>exact .inr ⟨c,rfl,q⟩
    | none,q=>cases q
   | some (some (true,.none)),q|some (some (true,.bool _)),q|some (some (true,.int _)),q|some (some (true,.str _)),q|some (some (true,.tuple _)),q|some (some (true,.list _)),q|some (some (false,_)),q|some none,q|none,q=>cases q
end
section
variable {X:Cx}{K:Frag}{Ew:Str->Hp->Prop}{pos pos2 p p2:Pos}{a e o j:Expr}{ta:TE}{fa fe fj:EF}{apos cpos:Pos}
theorem DS.or {st:Stmt}{f f1 f2:SF}(h1:DS X K Ew st f1)(h2:DS X K Ew st f2)(hf:∀Γ,f Γ=f1 Γ∨f Γ=f2 Γ):DS X K Ew st f:=λpins s σ H D I q=>by
 obtain⟨B,φ,Γ,r,q⟩:=q
 rcases hf Γ with z | z
 ·exact h1 pins s σ H D I ⟨B,φ,Γ,r,by rw[←z];exact q⟩
 ·exact h2 pins s σ H D I ⟨B,φ,Γ,r,by rw[←z];exact q⟩
theorem Hw (hu:X.A.units+80 < cLine){i:Nat}(ho:PE X o (pd i))(hj:DE X K Ew j fj)(he:DE X K Ew e fe)(hK:X.K=K:=by rfl)
  (ha:∀v,assign (.Subscript o j p) X.env v=(do
   let ov←holding [v] (eval o X.env)
   let iv←holding [v,ov] (eval j X.env)
   standAt p
   holding [v,ov,iv] (setItem ov iv v)
   release [v,ov,iv] []):=by intro _;rfl)
  (hs:swapsWithSole [.Subscript o j p] e pos.line X.env=pure false:=by rfl) (hw:swappedStores [.Subscript o j p] e X.env=pure none:=by rfl)
  (h1:(assignEach [.Subscript o j p] X.env).map (·.2)=[assign (.Subscript o j p) X.env]:=by rfl):DS X K Ew (.Assign [.Subscript o j p] e pos) (yw i fj fe):=by
 refine DS.or (N7 hu ho hj he hK ha hs hw h1) (zL ho hj he ha hs hw h1) λΓ=> ?_
 unfold yw
 match hg:Γ[i]? with
 | some (some (true,.dict kvs))=>exact .inl rfl
 | some (some (true,.none))=>exact .inr rfl
 | some (some (true,.bool _))=>exact .inr rfl
 | some (some (true,.int _))=>exact .inr rfl
 | some (some (true,.str _))=>exact .inr rfl
 | some (some (true,.tuple _))=>exact .inr rfl
 | some (some (true,.list _))=>exact .inr rfl
 | some (some (false,_))=>exact .inr rfl
 | some none=>exact .inr rfl
 | none=>exact .inr rfl
theorem N8 {kvs:List (PyData×PyData)}{k d:PyData}(h:∀p∈kvs,bL p.1=true)(hk:bL k=true):∀p∈putK kvs k d,bL p.1=true:=λp hp=>by
 unfold putK at hp
 split at hp
 ·obtain⟨q',hq',rfl⟩:=Ky.mp hp
  split
  ·exact h q' hq'
  ·exact h q' hq'
 ·rcases Kk.mp hp with hp | hp
  ·exact h p hp
  ·rw[K7.mp hp];exact hk
theorem CP:∀{more kvs:List (PyData×PyData)},(∀p∈more,bL p.1=true)->(∀p∈kvs,bL p.1=true)->∀p∈se kvs more,bL p.1=true
 | [],kvs,_,h=>h
 | (k,d) :: r,kvs,hm,h=>CP (kvs:=putK kvs k d) (λp hp=>hm p (K9 _ hp)) (N8 h (hm _ K8))
def Wj (H:Hp)(x:V):Prop:=∃a ks,x= .ref a/\Rd H a (.dct a ks)
theorem LH {pins:List (Addr×Obj)}{σ:St}{H:Hp}{s:Shared}{x:V}{v:Value}(I:Inv X pins σ H s)(r:RelV x v)(t:Wj H x):s.TypeIs v "dict" /\∀b,v= .ref b->∃ob,s.heap.get? b=some ob/\ob.dict=none:=by
 obtain⟨a,ks,rfl,hr⟩:=t
 cases(show v=Value.ref a from r)
 obtain⟨⟨_,_,_,_,o,es,ho,hc,_⟩,_⟩:=(show gk X.prog X.w H s.heap a (.dct a ks) from hr.ok I.hok)
 refine⟨⟨o,ho,hc.1⟩,λb e=> ?_⟩
 cases e
 exact⟨o,ho,hc.2.1⟩
def W0 (r:V->List V->Hp->VK->Prop)(to:TE)(t:TA):TE:=λσ H Q=>to σ H λx H1=>Wj H1 x/\t σ H1 λxs H2=>r x xs H2 Q
theorem Px {es:List Expr}{to:TE}{t:TA}{name:Str}{id:String}{r:V->List V->Hp->VK->Prop}(slot:Slot "dict" name id)(hty:typeOf (.builtin id)=pure (.type "method_descriptor"))(hm:Qy X id r)(ho:PE X o to)(ha:PA X (e :: es) t)
  (hbase:attributeBase o name X.env (eval o X.env)=eval o X.env)
  (hfew:((backTo cpos (starEach (e :: es) X.env)).all (λx=> !x.1) && (backToKw cpos (keywordEach [] X.env)).all (λx=>x.1.isSome)
   && decide ((e :: es).length+([]:List Keyword).length+(if ([]:List Keyword).isEmpty then 0 else 1) < 30))=true)
  (hline:(apos.endLine==cpos.line)=true) (hs:starEach (e :: es) X.env=(false,eval e X.env) :: starEach es X.env) (hplain:(backTo cpos (starEach es X.env)).any (·.1)=false) :
  PE X (.Call (.Attribute o name apos) (e :: es) [] cpos) (W0 r to t):=by
 intro pins s σ H Q I h
 refine wpAny_Call_method_late hbase hfew hline rfl (eQ (ho pins s σ H _ I h) λv s1 ⟨x,H1,I1,r1,ty,q1⟩=> ?_)
 obtain⟨h1,h2⟩:=LH I1 r1 ty
 refine⟨"dict",id,PySem.F.plainAttrs_dict,slot,hty,h1,h2,?_⟩
 have hA:=ha cpos pins s1 σ H1 _ I1 q1
 rw[hs] at hA⊢
 refine Calls.callWith_builtin (by show(false || (backTo cpos (starEach es X.env)).any (·.1))=false;rw[hplain] <;> rfl) (Calls.evalArgs_plain ?_)
 exact eQ hA λus s2 ⟨vs,H2,I2,r2,q2⟩=>hm pins s2 σ H2 x vs v us Q I2 r1 r2 q2
def Ta (kvs more:oZ):Prop:=(kvs.isEmpty=false/\jv kvs=true/\jv more=true)∨(allI kvs=true/\allI more=true)
def Vo (K:Frag):V->List V->Hp->VK->Prop:=λx vs H Q=>∃a b kvs ks more ms,x= .ref a/\vs=[.ref b]/\a≠b/\H a=some (.dct a ks)/\a_ K H kvs ks.1/\Rd H b (.dct b ms)/\a_ K H more ms.1/\Ta kvs more/\kvs.length+more.length<=sizeLine/\∀ep,Q .non (upd H a (.dct a (u6 ks.1 ms.1,ep)))
theorem QY (hu:X.A.units+80 < cLine):TY X "dict.update" (Vo X.K):=by
 intro pins s σ H x vs v us Q I rx rv h
 obtain⟨a,b,kvs,ks,more,ms,rfl,rfl,hab,hH,t,hr,t2,hok,hz,q⟩:=h
 cases(show v=Value.ref a from rx)
 obtain⟨u,rfl,ru⟩:=rv.one
 cases(show u=Value.ref b from ru)
 have e3:=jr t
 have e4:=jr t2
 have hlen:=yL ms.1 ks.1
 rcases hok with⟨h0,at1,at2⟩ | ⟨W3,W4⟩
 ·obtain⟨xs,dd,p,hs,hl,_⟩:=l6 I (.inl hH) t at1
  obtain⟨ys,dd2,p2,hs2,hl2,_⟩:=l6 I hr t2 at2
  have e1:=Paired.len p
  have e2:=Paired.len p2
  have hx0:xs≠[]:=λz=>by
   rw[z] at e1
   have:kvs.length=0:=by rw[←e3,e1];rfl
   rw[Yj.mp this] at h0;cases h0
  refine call_meetsIn PySem.F.slot_dict_update dd.typeIs PySem.F.entry_dict_update (PySem.F.args_dict_update_2 _ _) (N5 (knd:=cC X.prog X.w) a b hab hs2) ⟨show X.A.units+1+10 < cLine by omega,xs,ys,hx0,dd,dd2,by omega,λh' yP sb=> ?_⟩
  obtain⟨ep,ph⟩:=l7 (by omega) hs (sj p2 p) yP
  refine⟨.non,_,I.write (x:=a) (e:=a) (t':=s.toks) (by rw[hH];trivial) (.inl rfl) (λc w hc hw=>(sb.2 c hc).trans hw) ?_ (l8 ph),rfl,q ep⟩
  obtain⟨ob,_,_,ho,_⟩:=yP
  exact⟨ob,ho⟩
 ·obtain⟨xs,dd,p,hs,hl⟩:=l_ I (.inl hH) t W3
  obtain⟨ys,dd2,p2,hs2,hl2⟩:=l_ I hr t2 W4
  have e1:=Paired.len p
  have e2:=Paired.len p2
  refine call_meetsIn PySem.F.slot_dict_update dd.typeIs PySem.F.entry_dict_update (PySem.F.args_dict_update_2 _ _) (meets_dict_update (intKind X.prog X.w) a b hab hs2) ⟨xs,ys,dd,dd2,by omega,λh' yP _ sb=> ?_⟩
  obtain⟨ep,ph⟩:=u5 (by omega) hs (qh p2 p) yP
  refine⟨.non,_,I.write (x:=a) (e:=a) (t':=s.toks) (by rw[hH];trivial) (.inl rfl) (λc w hc hw=>(sb.2 c hc).trans hw) ?_ (l8 ph),rfl,q ep⟩
  obtain⟨ob,_,_,ho,_⟩:=yP
  exact⟨ob,ho⟩
theorem QZ (hu:X.A.units+80 < cLine){i:Nat}(ho:PE X o (pd i))(he:DE X K Ew e fe)(hK:X.K=K:=by rfl)
  (hbase:attributeBase o "update" X.env (eval o X.env)=eval o X.env:=by rfl)
  (hfew:((backTo cpos (starEach [e] X.env)).all (λx=> !x.1) && (backToKw cpos (keywordEach [] X.env)).all (λx=>x.1.isSome)
   && decide (([e]:List Expr).length+([]:List Keyword).length+(if ([]:List Keyword).isEmpty then 0 else 1) < 30))=true:=by rfl)
  (hline:(apos.endLine==cpos.line)=true:=by rfl) (hs:starEach [e] X.env=(false,eval e X.env) :: starEach [] X.env:=by rfl) (hplain:(backTo cpos (starEach [] X.env)).any (·.1)=false:=by rfl)
  (hsw:swapsWith (.Call (.Attribute o "update" apos) [e] [] cpos) none pos.line X.env=pure false:=by rfl) :
  DS X K Ew (.Expr (.Call (.Attribute o "update" apos) [e] [] cpos) pos) (He i fe) :=
 (pZ (Px PySem.F.slot_dict_update PySem.F.type_dict_update (QY hu) ho (b9 he fz hs) hbase hfew hline hs hplain) hsw).imp λD σ H q=>by
  subst hK
  obtain⟨B,φ,Γ,r,q⟩:=q
  unfold He at q
  match hg:Γ[i]?,q with
  | some (some (true,.dict kvs)),q=>
   obtain⟨v,hv,hT⟩:=r.own hg
   obtain⟨l,ks,bs,rfl,hl,ht,hφ⟩:=fO hT
   have hli:l∈φ i:=by rw[hφ];exact K8
   refine⟨.ref l,hv,⟨l,ks,rfl,.inl hl⟩,B,φ,Γ,r,?_⟩
   match hm:fe Γ,q with
   | some (.ok (k,d)),q=>
    refine .inl ⟨k,d,rfl,λy H1 s1 hy=> ?_⟩
    have r1:=r.same s1
    have hl1:=s1 _ _ hl
    replace q:fB X.K Ew B (match Iu i k kvs d with
     | some kvs'=>ah (.nx (Γ.set i (some (true,.dict kvs'))))
     | none=>none) D:=q
    cases d <;> try (exact False.elim q)
    rename_i more
    by_cases hc:NU i k=true/\((kvs.isEmpty=false/\jv kvs=true/\jv more=true)∨(allI kvs=true/\allI more=true))/\gB kvs=true/\gB more=true/\kvs.length+more.length<=sizeLine
    ·simp only[Iu,J5 hc] at q
     obtain⟨c1,c2,c3,c4,c5⟩:=hc
     have hd:=hy.toD r1.bs
     obtain⟨b,ms,rfl,hr,t2⟩:=eE hd
     have hbs:bs=[]:=qi ht c3
     subst hbs
     have hdk:=a_.same s1 _ _ (aR.toD _ _ _ ht)
     have hlb:l≠b:=λz=>by
      subst z
      cases k with
      | fr js=>
       obtain⟨as,h1,h2,h3⟩:=hy
       obtain⟨a',ks',bs',e1,e2,e3,e4⟩:=fO h1
       cases e1
       rcases h3 l (by rw[e4];exact K8) with⟨jj,hj1,hj2⟩ | z
       ·by_cases hji:jj=i
        ·subst hji
         simp only[NU,Bool.not_eq_true',List.contains_eq_mem,decide_eq_false_iff_not] at c1
         exact c1 hj1
        ·exact r.dj jj i hji l hj2 hli
       ·rw[hl] at z;cases z
      | base=>
       have hb:aJ X.K B (.dict more) (.ref l):=hy
       obtain⟨a',ks',e1,e2,_⟩:=eE hb
       cases e1
       have hn:=(r.nb i l hli).1
       rcases e2 with e2 | ⟨_,e2⟩ <;> (rw[hn] at e2;cases e2)
      | any=>simp[NU] at c1
     have hkn:=ux ht
     have htn:∀p∈se kvs more,bL p.1=true:=CP (λp hp=>by
      rcases c2 with⟨_,_,z⟩ | ⟨_,z⟩
      ·exact qd (Uv.mp z p hp)
      ·obtain⟨i,e⟩:=u4 (Uv.mp z p hp);rw[e];rfl) hkn
     refine⟨l,b,kvs,ks,more,ms,rfl,rfl,hlb,hl1,hdk,hr,t2,c2,c5,λep=> ?_⟩
     have hnew:=aR.upd (o':=.dct l (u6 ks.1 ms.1,ep)) hl1 trivial _ _ _ (show l∉[] by simp) (oK (yN t2 hdk) htn (yO c4 c3))
     exact q B _ σ _ (Same.refl B) (r1.chg (d:=.dict (se kvs more)) (as:=[l]) hli hl1 trivial hv (jJ aB hnew) (KJ.mpr ⟨by simp,X3⟩) (λa ha=> .inl (by rw[K7.mp ha];exact hli)) trivial)
    ·simp only[Iu,J6 hc] at q
     exact False.elim q
   | some (.ex c),q=>exact .inr ⟨c,rfl,q⟩
   | none,q=>cases q
  | some (some (true,.none)),q|some (some (true,.bool _)),q|some (some (true,.int _)),q|some (some (true,.str _)),q|some (some (true,.tuple _)),q|some (some (true,.list _)),q|some (some (false,_)),q|some none,q|none,q=>cases q
end
section
variable {X:Cx}{K:Frag}{Ew:Str->Hp->Prop}{pos:Pos}{ke ve:Expr}{fk fv:EF}
theorem LI {prog:Program}{w:World}{A:Around}{E:Jx}{s:Shared}{env:Env}{ke ve:Expr}{pos:Pos}{Q:Jx}
  (h:wpAny (model prog w) A (eval ke env) (λkv s₁=>wpAny (model prog w) A (eval ve env) (λvv s₂=>wpAny (model prog w) A (dictSet s.heap.objs.size kv vv) (λ_ s₃=>Q (.ref s.heap.objs.size) s₃) E s₂) E s₁) E
   {s with heap:=s.heap.push {cls:=.type "dict",data:=.dict #[]}}):wpAny (model prog w) A (eval (.Dict [some ke] [ve] pos) env) Q E s:=by
 rw[arm_eval_Dict]
 have hsh:(evalEachOpt [some ke] env).zip ((evalEach [ve] env).map λv=>do let x←v;standAt pos;pure x)=[(eval ke env,do let x←eval ve env;standAt pos;pure x)].map λp=>(some p.1,p.2):=rfl
 rw[hsh,dictDisplay_pairs _ (by simp) (by simp)]
 refine J8 (wpAny_standAt ?_);refine J8 ?_
 unfold subDict
 refine J8 (wpAny_alloc ?_);refine J8 (J2 ?_)
 rw[J5 (by simp)]
 refine J8 (evalPairs_cons (wpAny_mono h (λkv s₁ h₁=>J8 (wpAny_mono h₁ (λvv s₂ h₂=> ?_) λ_ _ e=>e)) λ_ _ e=>e))
 refine J8 (wpAny_standAt (J7 (evalPairs_nil (J2 ?_))))
 rw[YU]
 refine J8 (J8 (J8 (wpAny_mono h₂ (λ_ s₃ h₃=>J7 ?_) λ_ _ e=>e)))
 dsimp only;rw[List.forIn_nil]
 exact J7 (J7 (J7 (J7 h₃)))
theorem zX (hK:X.K=K:=by rfl):DE X K Ew (.Dict [] [] pos) uM:=by
 subst hK
 intro pins s σ H Q I q
 obtain⟨B,φ,Γ,r,q⟩:=q
 have hp:H s.heap.objs.size=none:=I.fresh
 have hd0:(s.heap.push {cls:=.type "dict",data:=.dict #[]}).DictOfH (cC X.prog X.w) s.heap.objs.size []:=Heap.DictOfH.new s.heap
 have hs0:(s.heap.objs.size==sysModules)=false:=beq_eq_false_iff_ne.mpr (Ne.symm (X1 I.big'))
 obtain⟨Py,Vp⟩:=l7 (ks:=[]) (Xu _) hs0 .nil hd0
 have I1:Inv X pins σ (upd H s.heap.objs.size (.dct s.heap.objs.size ([],Py))) {s with heap:=s.heap.push {cls:=.type "dict",data:=.dict #[]},toks:=s.toks} :=
  I.laid (λ_ _ e=>K6 _ e) (Ku _) (l8 Vp)
 rcases q with⟨_,_,e,q⟩ | ⟨_,e,_⟩
 ·cases e
  refine wpAny_Dict_empty ⟨.ref s.heap.objs.size,_,I1,rfl,q _ _ (Same.upd hp) (VR.fresh.mpr ⟨[s.heap.objs.size],jJ aB (by simp only[aR];exact⟨trivial,trivial⟩),KJ.mpr ⟨by simp,X3⟩,λa ha=>by rw[K7.mp ha];exact hp⟩)⟩
 ·cases e
theorem Hx (hu:X.A.units+80 < cLine)(hk:DE X K Ew ke fk)(hv:DE X K Ew ve fv)(hK:X.K=K:=by rfl):DE X K Ew (.Dict [some ke] [ve] pos) (Cq fk fv):=by
 subst hK
 intro pins s σ H Q I q
 obtain⟨B,φ,Γ,r,q⟩:=q
 have hp:H s.heap.objs.size=none:=I.fresh
 have hd0:(s.heap.push {cls:=.type "dict",data:=.dict #[]}).DictOfH (cC X.prog X.w) s.heap.objs.size []:=Heap.DictOfH.new s.heap
 have hs0:(s.heap.objs.size==sysModules)=false:=beq_eq_false_iff_ne.mpr (Ne.symm (X1 I.big'))
 obtain⟨Py,Vp⟩:=l7 (ks:=[]) (Xu _) hs0 .nil hd0
 have I1:Inv X pins σ (upd H s.heap.objs.size (.dct s.heap.objs.size ([],Py))) {s with heap:=s.heap.push {cls:=.type "dict",data:=.dict #[]},toks:=s.toks} :=
  I.laid (λ_ _ e=>K6 _ e) (Ku _) (l8 Vp)
 generalize hP:s.heap.objs.size=P at*
 have s1:Same H (upd H P (.dct P ([],Py))):=Same.upd hp
 have r1:=r.same s1
 have q:Runs X.K Ew B φ H (ar (fk Γ) λx=>ar (fv Γ) λy=>if gA [] x.2=true/\bL y.2=true then ah (.fr [],.dict [(x.2,y.2)]) else none) Q:=q
 have hroom:(cC X.prog X.w).room X.A:=show X.A.units+10 < cLine by omega
 match hm:fk Γ,q with
 | some (.ok (k,d)),q=>
  replace q:Runs X.K Ew B φ H (ar (fv Γ) λy=>if gA [] d=true/\bL y.2=true then ah (.fr [],.dict [(d,y.2)]) else none) Q:=q
  match hm2:fv Γ,q with
  | some (.ok (k2,d2)),q=>
   replace q:Runs X.K Ew B φ H (if gA [] d=true/\bL d2=true then ah (.fr [],.dict [(d,d2)]) else none) Q:=q
   by_cases hc:gA [] d=true/\bL d2=true
   ·rw[J5 hc] at q
    obtain⟨c1,c2⟩:=hc
    rcases q with⟨_,_,e,q⟩ | ⟨c,e,_⟩
    ·cases e
     subst hP
     refine LI (eQ (hk pins _ σ _ (λv H2=>Same (upd H s.heap.objs.size (.dct s.heap.objs.size ([],Py))) H2/\VR X.K B φ (upd H s.heap.objs.size (.dct s.heap.objs.size ([],Py))) H2 k d v) I1 ⟨B,φ,Γ,r1,.inl ⟨k,d,hm,λv H2 s2 hv2=>⟨s2,hv2⟩⟩⟩) λu st1 ⟨x,H2,I2,rx,s12,vx⟩=> ?_)
     have r2:=r1.same s12
     refine eQ (hv pins _ σ _ (λv H3=>Same H2 H3/\VR X.K B φ H2 H3 k2 d2 v) I2 ⟨B,φ,Γ,r2,.inl ⟨k2,d2,hm2,λv H3 s3 Pz=>⟨s3,Pz⟩⟩⟩) λu2 st2 ⟨y,H3,I3,ry,T5,vy⟩=> ?_
     have r3:=r2.same T5
     have hkd:=aJ.same T5 _ _ (vx.toD r2.bs)
     have W5:=vy.toD r3.bs
     have hp3:H3 s.heap.objs.size=some (.dct s.heap.objs.size ([],Py)):=T5 _ _ (s12 _ _ aB)
     have fin:∀(h':Heap) (t':Nat),Heap.SameBut s.heap.objs.size st2.heap h'->(∃ep,uO s.heap.objs.size ([(d,x,y)],ep) h')->EP X pins σ Q (.ref s.heap.objs.size) {st2 with heap:=h',toks:=t'}:=λh' t' sb ⟨ep,ph⟩=>by
      refine⟨.ref s.heap.objs.size,_,I3.write (x:=s.heap.objs.size) (e:=s.heap.objs.size) (t':=t') (by rw[hp3];trivial) (.inl rfl) (λc w hc hw=>(sb.2 c hc).trans hw) ?_ (l8 ph),rfl,?_⟩
      ·obtain⟨_,_,_,_,ob,_,ho,_⟩:=ph;exact⟨ob,ho⟩
      ·have sA:Same H H3:=s1.trans (s12.trans T5)
       refine q _ _ (sA.QJ hp) (VR.fresh.mpr ⟨[s.heap.objs.size],jJ aB ?_,KJ.mpr ⟨by simp,X3⟩,λa ha=>by rw[K7.mp ha];exact hp⟩)
       have hdk:a_ X.K H3 [(d,d2)] [(d,x,y)]:=by simp only[a_];exact⟨_,_,_,rfl,hkd,W5,rfl⟩
       have htk:=oK hdk (λp hp=>by rw[K7.mp hp];exact zW c1) (show gB [(d,d2)]=true by unfold gB;rw[KZ,Yx,aq,aq,c2];rfl)
       exact aR.upd hp3 trivial _ _ _ (show s.heap.objs.size∉[] by simp) htk
     rcases jW c1 with⟨ds,rfl,hn,_⟩ | ⟨n,rfl,_⟩
     ·obtain⟨b,vs,rfl,_,_⟩:=aM hkd
      cases(show u=Value.ref b from rx)
      obtain⟨xs,dd,p,hs,hl,_⟩:=l6 I3 (.inl hp3) (show a_ X.K H3 [] [] by simp only[a_]) rfl
      cases p
      obtain⟨kk,hkk⟩:∃kk:NK,kk.d= .tuple ds:=⟨⟨ds,hn⟩,rfl⟩
      refine wpAny_dictSet_heap (knd:=cC X.prog X.w) (k:=kk) (hsz:=Xu _) hroom (by show jF _ kk.d _;rw[hkk];exact aJ.LD I3 8 (.tuple ds) (.ref b) (.ref b) (by rw[Y.nest];exact hn) hkd rfl) dd λh' yP sb=>fin h' _ sb ?_
      have hpr:Paired Rk [(PyData.tuple ds,V.ref b,y)] [(kk,b,u2)]:=.cons ⟨hkk.symm,rfl,ry⟩ .nil
      exact l7 (ks:=[(PyData.tuple ds,V.ref b,y)]) (show 1<=sizeLine by decide) hs0 hpr yP
     ·have:=aF hkd
      subst this
      obtain⟨tk,rfl⟩:=rx
      obtain⟨xs,dd,p,hs,hl⟩:=l_ I3 (.inl hp3) (show a_ X.K H3 [] [] by simp only[a_]) rfl
      cases p
      refine wpAny_dictSet_pairs (knd:=intKind X.prog X.w) (k:=n) (hsz:=Xu _) (by simp[intKind,Value.isInt]) dd λh' yP sb=>fin h' _ sb ?_
      have hpr:Paired xy [(PyData.int n,V.int n,y)] [(n,u2)]:=.cons ⟨rfl,rfl,ry⟩ .nil
      exact u5 (ks:=[(PyData.int n,V.int n,y)]) (show 1<=sizeLine by decide) hs0 hpr yP
    ·cases e
   ·rw[J6 hc] at q
    rcases q with⟨_,_,e,_⟩ | ⟨_,e,_⟩ <;> cases e
  | some (.ex c),q=>
   rcases q with⟨_,_,e,_⟩ | ⟨c',e,q⟩
   ·cases e
   ·cases e
    subst hP
    refine LI (eQ (hk pins _ σ _ (λv H2=>Same (upd H s.heap.objs.size (.dct s.heap.objs.size ([],Py))) H2) I1 ⟨B,φ,Γ,r1,.inl ⟨k,d,hm,λv H2 s2 hv2=>s2⟩⟩) λu st1 ⟨x,H2,I2,rx,s12⟩=> ?_)
    exact eQ (hv pins _ σ _ (λv H3=>False) I2 ⟨B,φ,Γ,r1.same s12,.inr ⟨c,hm2,q⟩⟩) λu2 st2 ⟨_,_,_,_,z⟩=>False.elim z
  | none,q=>rcases q with⟨_,_,e,_⟩ | ⟨_,e,_⟩ <;> cases e
 | some (.ex c),q=>
  rcases q with⟨_,_,e,_⟩ | ⟨c',e,q⟩
  ·cases e
  ·cases e
   subst hP
   exact LI (eQ (hk pins _ σ _ (λv H2=>False) I1 ⟨B,φ,Γ,r1,.inr ⟨c,hm,q⟩⟩) λu st1 ⟨_,_,_,_,z⟩=>False.elim z)
 | none,q=>rcases q with⟨_,_,e,_⟩ | ⟨_,e,_⟩ <;> cases e
end
end L2
namespace Y
open PySem
def IG (i:Nat)(fk:EF)(j:Nat):SF:=λΓ=>match Γ[i]? with
 | some (some (true,.dict kvs))=>ar (fk Γ) λx=>match Γ[j]? with
  | some (some (_,.int n))=>if fM x.2=true/\jv kvs=true/\kvs.length < sizeLine then (match Hf kvs x.2 (.int n) with
   | some kvs'=>ah (.nx (Γ.set i (some (true,.dict kvs'))))
   | none=>none) else none
  | _=>none
 | _=>none
def IH (k:Kd):PyData->M (Kd×List PyData)
 | .dict kvs=>if jv kvs=true then ah (k,kvs.map λp=> .tuple [p.1,p.2]) else none
 | _=>none
def zY (e:EF):IF:=λΓ=>ar (e Γ) λx=>IH x.1 x.2
def vf:PyData->Option PyData
 | .int n=>if 0<=n/\n<=100000 then some (.list ((List.range n.toNat).map λi=> .int (i:Nat))) else none
 | _=>none
def intOf:PyData->Option Int
 | .int i=>some i
 | _=>none
def zZ:List Int->Int
 | []=>0
 | i :: l=>l.foldl (λa b=>if b < a then b else a) i
def yQ:List PyData->Option PyData
 | [.list xs]=>(xs.mapM intOf).bind λl=>if l.isEmpty=false then some (.int (zZ l)) else none
 | _=>none
end Y
namespace L2
open PySem PySem.Spec PyProof.Rows Y
def kQ (ks:List (PyData×V×V))(k:PyData):Option V:=(ks.find? λp=>PyData.eqv p.1 k).map (·.2.2)
theorem z0 (k:NK):∀{ks:List (PyData×V×V)} {xs:List (NK×Addr×Value)},Paired Rk ks xs->(∀w,kQ ks k.d=some w->∃p,atKey xs k=some p/\RelV w p.2)/\(kQ ks k.d=none->atKey xs k=none)
 | _,_,.nil=>⟨λw h=>by simp[kQ] at h,λ_=>rfl⟩
 | _,_,.cons (a:=q) (b:=x) r t=>by
  obtain⟨h1,h2⟩:=z0 k t
  unfold kQ atKey at*
  rw[XW,XW,r.1,FH]
  cases hd:decide (x.1=k) with
  | true=>
   refine⟨λw h=> ?_,λh=>by simp at h⟩
   simp only[U0,Option.some.injEq] at h⊢
   subst h
   exact⟨_,rfl,r.2.2⟩
  | false=>exact⟨h1,h2⟩
theorem CQ (k:Int):∀{ks:List (PyData×V×V)} {xs:List (Int×Value)},Paired xy ks xs->∀w,kQ ks (.int k)=some w->∃u,valueAt xs k=some u/\RelV w u
 | _,_,.nil=>λw h=>by simp[kQ] at h
 | _,_,.cons (a:=q) (b:=x) r t=>by
  have h1:=CQ k t
  unfold kQ valueAt at*
  rw[XW,XW,r.1,QV]
  cases hd:decide (x.1=k) with
  | true=>
   intro w h
   simp only[U0,Option.some.injEq] at h⊢
   subst h
   exact⟨_,rfl,r.2.2⟩
  | false=>exact h1
theorem oM {K:Frag}{H:Hp}{k:PyData}:∀{kvs:oZ} {ks:List (PyData×V×V)},a_ K H kvs ks->∀z,jp kvs k=some z->∃w,kQ ks k=some w/\aJ K H z w
 | [],ks,t,z,h=>by simp[jp] at h
 | (k',d') :: r,ks,t,z,h=>by
  simp only[a_] at t
  obtain⟨kv,v',q,rfl,h1,h2,h3⟩:=t
  unfold jp kQ at*
  rw[XW] at h⊢
  simp only at h⊢
  cases he:PyData.eqv k' k with
  | true=>
   rw[he] at h
   simp only[U0,Option.some.injEq] at h⊢
   subst h
   exact⟨_,rfl,h2⟩
  | false=>
   rw[he] at h
   exact oM h3 z h
theorem yR {K:Frag}{H:Hp}{k:PyData}:∀{kvs:oZ} {ks:List (PyData×V×V)} {as:List Addr},aR K H kvs ks as->∀z,jp kvs k=some z->∃w bs,kQ ks k=some w/\IsT K H z w bs/\bs.Sublist as
 | [],ks,as,t,z,h=>by simp[jp] at h
 | (k',d') :: r,ks,as,t,z,h=>by
  simp only[aR] at t
  obtain⟨kv,v',q,a1,a2,rfl,rfl,h1,h2,h3⟩:=t
  unfold jp kQ at*
  rw[XW] at h⊢
  simp only at h⊢
  cases he:PyData.eqv k' k with
  | true=>
   rw[he] at h
   simp only[U0,Option.some.injEq] at h⊢
   subst h
   exact⟨_,a1,rfl,h2,List.sublist_append_left _ _⟩
  | false=>
   rw[he] at h
   obtain⟨w,bs,g1,g2,g3⟩:=yR h3 z h
   exact⟨w,bs,g1,g2,g3.trans (List.sublist_append_right _ _)⟩
section
variable {X:Cx}{K:Frag}{Ew:Str->Hp->Prop}
def Tb (K:Frag):R2:=λx y H Q=>∃a ks kvs k w,x= .ref a/\Rd H a (.dct a ks)/\a_ K H kvs ks.1/\aJ K H k y/\gA kvs k=true/\kQ ks.1 k=some w/\Q w H
theorem Q3 (hu:X.A.units+80 < cLine):KO X (Tb X.K):=by
 intro value slice pins s σ H x y v u Q I rx ry h hs
 obtain⟨a,ks,kvs,k,w,rfl,hr,t,hk,hom,hg,q⟩:=h
 cases(show v=Value.ref a from rx)
 rcases jW hom with⟨ds,rfl,hn,ht⟩ | ⟨i,rfl,ht⟩
 ·obtain⟨xs,dd,p,W6,hl,_⟩:=l6 I hr t ht
  obtain⟨bk,vs,rfl,g1,g2⟩:=aM hk
  cases(show u=Value.ref bk from ry)
  obtain⟨kk,hkk⟩:∃kk:NK,kk.d= .tuple ds:=⟨⟨ds,hn⟩,rfl⟩
  have zV:jF s.heap kk.d (.ref bk):=by rw[hkk];exact aJ.LD I 8 (.tuple ds) (.ref bk) (.ref bk) (by rw[Y.nest];exact hn) hk rfl
  rw[←hkk] at hg
  obtain⟨pp,hpp,Il⟩:=(z0 kk p).1 w hg
  exact subscriptTail_builtinR (x:=pp.2) dd.typeIs PySem.F.slot_dict_getitem.lookup (wpAny_getItem_heap (knd:=cC X.prog X.w) (k:=kk) (show X.A.units+1+10 < cLine by omega) zV dd hpp ⟨rfl,w,H,I.tok _,Il,q⟩) hs
 ·obtain⟨xs,dd,p,W6,hl⟩:=l_ I hr t ht
  have:=aF hk
  subst this
  obtain⟨tk,rfl⟩:=ry
  obtain⟨uu,W7,Il⟩:=CQ i p w hg
  exact subscriptTail_builtinR (x:=uu) dd.typeIs PySem.F.slot_dict_getitem.lookup (wpAny_getItem_of (knd:=intKind X.prog X.w) (k:=i) (by simp[intKind,Value.isInt]) dd.mapOf W7 ⟨rfl,w,H,I.tok _,Il,q⟩) hs
theorem Q4 (hu:X.A.units+80 < cLine):Vd X zw:=by
 obtain⟨r,hr,lift⟩:=iI (X:=X)
 refine⟨_,(Q3 hu).or hr,λB φ H0 k x y z u v H Q s e hx hy q=> ?_⟩
 cases x with
 | dict kvs=>
  simp only[zw] at e
  split at e
  ·rename_i hom
   refine .inl ?_
   cases k with
   | fr l=>
    obtain⟨as,h1,h2,h3⟩:=hx
    obtain⟨a,ks,bs,rfl,e1,e2,rfl⟩:=fO h1
    obtain⟨w,cs,g1,g2,g3⟩:=yR e2 z e
    refine⟨a,ks,kvs,y,w,rfl,.inl e1,aR.toD _ _ _ e2,hy,hom,g1,q w ?_⟩
    have hsub:cs.Sublist (a :: bs):=g3.trans (List.sublist_cons_self _ _)
    have hv:VR X.K B φ H0 H (.fr l) z w:=⟨cs,g2,h2.sublist hsub,λb hb=>h3 b (hsub.subset hb)⟩
    exact hv.eR s
   | base=>
    have hb:aJ X.K B (.dict kvs) u:=hx
    obtain⟨a,ks,rfl,e1,e2⟩:=eE hb
    obtain⟨w,g1,g2⟩:=oM e2 z e
    have hv:VR X.K B φ H0 H .base z w:=g2
    exact⟨a,ks,kvs,y,w,rfl,s.rd e1,a_.same s _ _ e2,hy,hom,g1,q w (hv.eR s)⟩
   | any=>
    have hb:aJ X.K H (.dict kvs) u:=hx
    obtain⟨a,ks,rfl,e1,e2⟩:=eE hb
    obtain⟨w,g1,g2⟩:=oM e2 z e
    have hv:VR X.K B φ H0 H .any z w:=g2
    exact⟨a,ks,kvs,y,w,rfl,e1,e2,hy,hom,g1,q w (hv.eR s)⟩
  ·cases e
 | _=>
  refine .inr (lift B φ H0 k _ y z u v H Q s ?_ hx hy q)
  exact e
end
section
variable {prog:Program}{w:World}{K:Type}[DecidableEq K]{knd:HeapKind prog w K}{A:Around}{E:Jx}{s:Shared}
theorem Vq {d a:Addr}{xs:List (K×Addr×Value)}{k:K}{v:Value}{Q:Jx}(hu:knd.room A)(hkey:knd.is s.heap k a)(hm:s.heap.DictOfH knd d xs)(hsz:xs.length<=sizeLine)
  (h1:∀p,atKey xs k=some p->Q p.2 {s with toks:=s.toks+knd.draws k})
  (h2:atKey xs k=none->∀h',h'.DictOfH knd d (xs++[(k,a,v)])->Heap.SameBut d s.heap h'->Q v {s with heap:=h',toks:=s.toks+knd.draws k}):wpAny (model prog w) A (dictSetDefault d (.ref a) v) Q E s:=by
 obtain⟨o,es,ep,ho,hc,hd,he,his,hn⟩:=hm
 have hes:es.size<=sizeLine:=by rw[size_of_entries he];exact hsz
 unfold dictSetDefault
 refine J2 ?_
 refine J8 (knd.pyHash hu hkey ?_)
 refine J8 (wpAny_dictFind_heap (s:={s with toks:=s.toks+knd.draws k}) hu hkey ho hd he his hn (λhno=> ?_) λj p hj=> ?_)
 ·refine J8 (wpAny_rule ?_)
  refine J8 (wpAny_updateDictKeys (hz:=hes) (s:={s with toks:=s.toks+knd.draws k}) ho hd (J7 (h2 (atKey_none_of_get hno) _ ⟨_,_,ep+1,Xk _ ho (Obj.isFreed_of_dict (Obj.data_mapDictKeys hd _)),hc.mapDictKeys _,Obj.data_mapDictKeys hd _,?_,λx hx=> ?_,?_⟩ (Heap.SameBut.update ..))))
  ·simp[he,entryOfKey]
  ·rcases Kk.mp hx with hx | hx
   ·exact knd.keeps (his x hx) ho hd (Heap.SameBut.update ..)
   ·rw[K7.mp hx];exact knd.keeps hkey ho hd (Heap.SameBut.update ..)
  ·rw[X6,XX]
   refine⟨hn,KJ.mpr ⟨by simp,X3⟩,λx hx y hy e=>not_mem_keys_of_get hno ?_⟩
   have hy':y=k:=by simpa using hy
   rw[←hy',←e];exact hx
 ·refine J8 (wpAny_dictEntries (s:={s with toks:=s.toks+knd.draws k}) ho hd ?_)
  rw[entry_at he j,hj]
  exact J8 (wpAny_rule (J7 (h1 p (atKey_of_get hn hj))))
theorem LJ (d a:Addr)(v:Value)(hd:(d==sysModules)=false) :
  MeetsIn prog w (Builtin.«dict.setdefault» ⟨[.ref d,.ref a,v],[]⟩) (λA R s=>knd.room A.in1/\∃k xs,knd.is s.heap k a/\s.heap.DictOfH knd d xs/\xs.length<=sizeLine/\
   (∀p,atKey xs k=some p->R (.ok (.ret p.2)) {s with toks:=s.toks+knd.draws k})/\
   (atKey xs k=none->∀h',h'.DictOfH knd d (xs++[(k,a,v)])->Heap.SameBut d s.heap h'->R (.ok (.ret v)) {s with heap:=h',toks:=s.toks+knd.draws k})) :=
 .of_wp λA R s ⟨hu,k,xs,hk,hm,hsz,h1,h2⟩=>by
  unfold Builtin.«dict.setdefault»;refine J8 ?_
  unfold Builtin.Dict.keyAndDefault;refine J8 (wpAny_notOrdered_dict hm.typeIs ?_)
  show wpAny (model prog w) _ (pure (d,Value.ref a,some v)) _ _ s;refine J7 ?_
  show wpAny (model prog w) _ (if (d==sysModules)=true then _ else (dictSetDefault d (.ref a) v >>=_)) _ _ s
  rw[J6 (by rw[hd];exact K3)]
  exact J8 (Vq hu hk hm hsz (λp hp=>J7 ⟨p.2,rfl,h1 p hp⟩) λhn h' hm' hs'=>J7 ⟨v,rfl,h2 hn h' hm' hs'⟩)
end
section
variable {X:Cx}
def W8 (K:Frag):V->List V->Hp->VK->Prop:=λx vs H Q=>∃a kvs ks k kv lv,x= .ref a/\vs=[kv,lv]/\H a=some (.dct a ks)/\a_ K H kvs ks.1/\aJ K H k kv/\fM k=true/\jv kvs=true/\ks.1.length < sizeLine/\
 (∀w,kQ ks.1 k=some w->Q w H)/\(kQ ks.1 k=none->∀ep,Q lv (upd H a (.dct a (ks.1++[(k,kv,lv)],ep))))
theorem Tc (hu:X.A.units+80 < cLine):TY X "dict.setdefault" (W8 X.K):=by
 intro pins s σ H x vs v us Q I rx rv h
 obtain⟨a,kvs,ks,k,kv,lv,rfl,rfl,hH,t,hk,hkt,hat,hz,q1,q2⟩:=h
 cases(show v=Value.ref a from rx)
 cases rv with
 | cons r1 r2=>
  obtain⟨u2,rfl,r3⟩:=(show Vals [lv] _ from r2).one
  obtain⟨ds,rfl,hn⟩:=qc hkt
  obtain⟨bk,zs,rfl,g1,g2⟩:=aM hk
  rename_i u1
  cases(show u1=Value.ref bk from r1)
  obtain⟨xs,dd,p,hs,hl,_⟩:=l6 I (.inl hH) t hat
  have e1:=Paired.len p
  obtain⟨kk,hkk⟩:∃kk:NK,kk.d= .tuple ds:=⟨⟨ds,hn⟩,rfl⟩
  have zV:jF s.heap kk.d (.ref bk):=by rw[hkk];exact aJ.LD I 8 (.tuple ds) (.ref bk) (.ref bk) (by rw[Y.nest];exact hn) hk rfl
  rw[←hkk] at q1 q2
  obtain⟨ga,gb⟩:=z0 kk p
  refine call_meetsIn PySem.F.slot_dict_setdefault dd.typeIs PySem.F.entry_dict_setdefault (PySem.F.args_dict_setdefault_3 _ _ _) (LJ (knd:=cC X.prog X.w) a bk u2 hs) ⟨show X.A.units+1+10 < cLine by omega,kk,xs,zV,dd,by omega,λpp hpp=> ?_,λhno h' yP sb=> ?_⟩
  ·cases hg:kQ ks.1 kk.d with
   | none=>rw[gb hg] at hpp;cases hpp
   | some w=>
    obtain⟨p',hp',Il⟩:=ga w hg
    rw[hpp] at hp'
    cases hp'
    exact⟨w,H,I.tok _,Il,q1 w hg⟩
  ·have hg:kQ ks.1 kk.d=none:=by
    cases hg:kQ ks.1 kk.d with
    | none=>rfl
    | some w=>obtain⟨p',hp',_⟩:=ga w hg;rw[hno] at hp';cases hp'
   have hpr:Paired Rk (ks.1++[(kk.d,V.ref bk,lv)]) (xs++[(kk,bk,u2)]):=ng ⟨rfl,rfl,r3⟩ p
   obtain⟨ep,ph⟩:=l7 (by rw[Kx,X8];omega) hs hpr yP
   refine⟨lv,_,I.write (x:=a) (e:=a) (by rw[hH];trivial) (.inl rfl) (λc w hc hw=>(sb.2 c hc).trans hw) ?_ (l8 ph),r3,q2 hg ep⟩
   obtain⟨ob,_,_,ho,_⟩:=yP
   exact⟨ob,ho⟩
end
def Vr (n:PyData):PyData->Option PyData
 | .list xs=>if aq xs=true/\xs.length < sizeLine then some (.list (xs++[n])) else none
 | _=>none
theorem CS (k' v:PyData)(r:oZ)(k n:PyData):Hf ((k',v) :: r) k n=if PyData.eqv k' k=true then (Vr n v).map λz=>(k',z) :: r else (Hf r k n).map ((k',v) :: ·):=by
 cases v <;> simp only[Hf,Vr] <;> split <;> try rfl
 split <;> rfl
theorem CT {k n:PyData}:∀{kvs:oZ},jp kvs k=none->Hf kvs k n=some (kvs++[(k,.list [n])])
 | [],_=>rfl
 | (k',v) :: r,h=>by
  unfold jp at h
  rw[XW] at h
  simp only at h
  cases he:PyData.eqv k' k with
  | true=>rw[he] at h;cases h
  | false=>
   rw[he] at h
   rw[CS,J6 (by rw[he];exact K3),CT (kvs:=r) h];rfl
section
variable {K:Frag}{H:Hp}
theorem CU {k:PyData}{n:Int}:∀{kvs kvs':oZ} {ks:List (PyData×V×V)} {bs:List Addr} {z:PyData},aR K H kvs ks bs->bs.Nodup->jp kvs k=some z->Hf kvs k (.int n)=some kvs'->
  ∃l vs,kQ ks k=some (.ref l)/\H l=some (.lst vs)/\l∈bs/\vs.length < sizeLine/\aR K (upd H l (.lst (vs++[.int n]))) kvs' ks bs
 | [],kvs',ks,bs,z,t,_,g,_=>by simp[jp] at g
 | (k',d') :: r,kvs',ks,bs,z,t,hnd,g,e=>by
  simp only[aR] at t
  obtain⟨kv,v',q,a1,a2,rfl,rfl,h1,h2,h3⟩:=t
  rw[XX] at hnd
  obtain⟨n1,n2,n3⟩:=hnd
  unfold jp at g
  rw[XW] at g
  simp only at g
  rw[CS] at e
  unfold kQ
  rw[XW]
  simp only
  cases he:PyData.eqv k' k with
  | true=>
   rw[he] at g
   rw[J5 he] at e
   cases d' <;> simp only[Vr] at e <;> try (cases e;done)
   rename_i xs
   by_cases hc:aq xs=true/\xs.length < sizeLine
   ·rw[J5 hc] at e
    cases e
    obtain⟨l,vs,cs,rfl,hl,ht,rfl⟩:=dE h2
    have hcs:cs=[]:=aE.nil _ _ _ hc.1 ht
    subst hcs
    have hlen:=df ht
    refine⟨l,vs,rfl,hl,by simp,by omega,?_⟩
    simp only[aR]
    refine⟨kv,.ref l,q,[l],a2,rfl,rfl,IsT.upd hl trivial _ _ _ (by simp) h1,?_,?_⟩
    ·have h4:=aE.upd (o':=.lst (vs++[.int n])) hl trivial _ _ _ (show l∉[] by simp) ht
     have h5:aE K (upd H l (.lst (vs++[.int n]))) [PyData.int n] [V.int n] []:=aA.toT _ _ rfl (bq cx bM)
     exact ic aB (fP h4 h5)
    ·exact aR.upd hl trivial _ _ _ (λz=>n3 l (by simp) l z rfl) h3
   ·rw[J6 hc] at e;cases e
  | false=>
   rw[he] at g
   rw[J6 (by rw[he];exact K3)] at e
   cases hs:Hf r k (.int n) with
   | none=>rw[hs] at e;cases e
   | some r'=>
    rw[hs] at e
    cases e
    obtain⟨l,vs,i1,i2,i3,i4,i5⟩:=CU h3 n2 g hs
    refine⟨l,vs,i1,i2,K1 _ i3,i4,?_⟩
    simp only[aR]
    exact⟨kv,v',q,a1,a2,rfl,rfl,IsT.upd i2 trivial _ _ _ (by simp) h1,IsT.upd i2 trivial _ _ _ (λz=>n3 l z l i3 rfl) h2,i5⟩
theorem rg {k d:PyData}{kv v:V}{cs:List Addr}(hk:IsT K H k kv [])(hv:IsT K H d v cs):∀{kvs:oZ} {ks:List (PyData×V×V)} {bs:List Addr},aR K H kvs ks bs->aR K H (kvs++[(k,d)]) (ks++[(k,kv,v)]) (bs++cs)
 | [],ks,bs,t=>by
  simp only[aR] at t
  obtain⟨rfl,rfl⟩:=t
  simp only[Y4,aR]
  exact⟨kv,v,[],cs,[],rfl,by simp,hk,hv,rfl,rfl⟩
 | (k',d') :: r,ks,bs,t=>by
  simp only[aR] at t
  obtain⟨kv',v',q,a1,a2,rfl,rfl,h1,h2,h3⟩:=t
  rw[U8,U8]
  simp only[aR]
  exact⟨kv',v',_,a1,a2++cs,rfl,by rw[Xj],h1,h2,rg hk hv h3⟩
theorem yS {k:PyData}:∀{kvs:oZ} {ks:List (PyData×V×V)},a_ K H kvs ks->jp kvs k=none->kQ ks k=none
 | [],ks,t,h=>by simp only[a_] at t;subst t;rfl
 | (k',d') :: r,ks,t,h=>by
  simp only[a_] at t
  obtain⟨kv,v',q,rfl,h1,h2,h3⟩:=t
  unfold jp kQ at*
  rw[XW] at h⊢
  simp only at h⊢
  cases he:PyData.eqv k' k with
  | true=>rw[he] at h;cases h
  | false=>rw[he] at h;exact yS h3 h
end
section
variable {X:Cx}{K:Frag}{Ew:Str->Hp->Prop}{pos lp p1:Pos}{ke o ne:Expr}{fk:EF}{Sb N9 Vs Sd:Pos}
theorem PB (hu:X.A.units+80 < cLine){i j:Nat}(ho:PE X o (pd i))(hk:DE X K Ew ke fk)(hn:PE X ne (pd j))(hK:X.K=K:=by rfl)
  (hb1:attributeBase o "setdefault" X.env (eval o X.env)=eval o X.env:=by rfl)
  (hf1:((backTo N9 (starEach [ke,.List [] lp] X.env)).all (λx=> !x.1) && (backToKw N9 (keywordEach [] X.env)).all (λx=>x.1.isSome)
   && decide (([ke,.List [] lp]:List Expr).length+([]:List Keyword).length+(if ([]:List Keyword).isEmpty then 0 else 1) < 30))=true:=by rfl)
  (hl1:(Sb.endLine==N9.line)=true:=by rfl) (hs1:starEach [ke,.List [] lp] X.env=(false,eval ke X.env) :: starEach [.List [] lp] X.env:=by rfl) (hp1:(backTo N9 (starEach [.List [] lp] X.env)).any (·.1)=false:=by rfl)
  (hs0:starEach [.List [] lp] X.env=(false,eval (.List [] lp) X.env) :: starEach [] X.env:=by rfl)
  (hb2:attributeBase (.Call (.Attribute o "setdefault" Sb) [ke,.List [] lp] [] N9) "append" X.env (eval (.Call (.Attribute o "setdefault" Sb) [ke,.List [] lp] [] N9) X.env)=eval (.Call (.Attribute o "setdefault" Sb) [ke,.List [] lp] [] N9) X.env:=by rfl)
  (hf2:((backTo Sd (starEach [ne] X.env)).all (λx=> !x.1) && (backToKw Sd (keywordEach [] X.env)).all (λx=>x.1.isSome)
   && decide (([ne]:List Expr).length+([]:List Keyword).length+(if ([]:List Keyword).isEmpty then 0 else 1) < 30))=true:=by rfl)
  (hl2:(Vs.endLine==Sd.line)=true:=by rfl) (hs2:starEach [ne] X.env=(false,eval ne X.env) :: starEach [] X.env:=by rfl) (hp2:(backTo Sd (starEach [] X.env)).any (·.1)=false:=by rfl)
  (hsw:swapsWith (.Call (.Attribute (.Call (.Attribute o "setdefault" Sb) [ke,.List [] lp] [] N9) "append" Vs) [ne] [] Sd) none pos.line X.env=pure false:=by rfl) :
  DS X K Ew (.Expr (.Call (.Attribute (.Call (.Attribute o "setdefault" Sb) [ke,.List [] lp] [] N9) "append" Vs) [ne] [] Sd) pos) (IG i fk j) :=
 (pZ (Ha PySem.F.plainAttrs_list PySem.F.slot_list_append PySem.F.type_list_append qZ
  (Px PySem.F.slot_dict_setdefault PySem.F.type_dict_setdefault (Tc hu) ho (b9 hk (b9 (KI fz) fz hs0) hs1) hb1 hf1 hl1 hs1 hp1) (b9 hn fz hs2) hb2 hf2 hl2 hs2 hp2) hsw).imp λD σ H q=>by
  subst hK
  obtain⟨B,φ,Γ,r,q⟩:=q
  unfold IG at q
  match hg:Γ[i]?,q with
  | some (some (true,.dict kvs)),q=>
   obtain⟨v,hv,hT⟩:=r.own hg
   obtain⟨l,ks,bs,rfl,hl,ht,hφ⟩:=fO hT
   have hli:l∈φ i:=by rw[hφ];exact K8
   have hnd:=r.nd i
   rw[hφ,KJ] at hnd
   refine⟨.ref l,hv,⟨l,ks,rfl,.inl hl⟩,B,φ,Γ,r,?_⟩
   match hm:fk Γ,q with
   | some (.ok (k,d)),q=>
    refine .inl ⟨k,d,rfl,λy H1 s1 hy=> ?_⟩
    have r1:=r.same s1
    have hl1:=s1 _ _ hl
    have ht1:=aR.same s1 _ _ _ ht
    have hkd:=hy.toD r1.bs
    replace q:fB X.K Ew B (match Γ[j]? with
     | some (some (_,.int n))=>if fM d=true/\jv kvs=true/\kvs.length < sizeLine then (match Hf kvs d (.int n) with
      | some kvs'=>ah (.nx (Γ.set i (some (true,.dict kvs'))))
      | none=>none) else none
     | _=>none) D:=q
    match hj:Γ[j]?,q with
    | some (some (ob,.int n)),q=>
     obtain⟨vj,hvj,T6⟩:=r1.sl j ob (.int n) hj
     have hvn:vj= .int n:=by
      cases ob with
      | true=>rw[J5 rfl] at T6;exact aF (IsT.toD _ _ _ T6)
      | false=>rw[J6 K3] at T6;exact aF T6
     subst hvn
     replace q:fB X.K Ew B (if fM d=true/\jv kvs=true/\kvs.length < sizeLine then (match Hf kvs d (.int n) with
      | some kvs'=>ah (.nx (Γ.set i (some (true,.dict kvs'))))
      | none=>none) else none) D:=q
     by_cases hc:fM d=true/\jv kvs=true/\kvs.length < sizeLine
     ·rw[J5 hc] at q
      obtain⟨c1,c2,c3⟩:=hc
      refine⟨Xu _,λp hp=> ?_⟩
      have s2:Same H1 (upd H1 p (.lst [])):=Same.upd hp
      have r2:=r1.same s2
      have Np:=aR.same s2 _ _ _ ht1
      have N_:=aR.toD _ _ _ Np
      have hpl:p≠l:=λz=>by rw[z,hl1] at hp;cases hp
      have hl2:upd H1 p (.lst []) l=some (.dct l ks):=by rw[a9 (Ne.symm hpl)];exact hl1
      have Td:=aJ.same s2 _ _ hkd
      refine⟨l,kvs,ks,d,y,.ref p,rfl,rfl,hl2,N_,Td,c1,c2,by rw[jr N_];exact c3,λw hw=> ?_,λhw ep=> ?_⟩
      ·cases Se:jp kvs d with
       | none=>rw[yS N_ Se] at hw;cases hw
       | some z=>
        cases hsd:Hf kvs d (.int n) with
        | none=>rw[hsd] at q;exact False.elim q
        | some kvs'=>
         rw[hsd] at q
         obtain⟨m,vs,i1,i2,i3,i4,i5⟩:=CU Np hnd.2 Se hsd
         rw[hw] at i1
         cases i1
         have hmi:m∈φ i:=by rw[hφ];exact K9 _ i3
         have hml:m≠l:=λz=>hnd.1 (z ▸ i3)
         refine⟨.inl ⟨rfl,vs,iV.of i2⟩,.int n,hvj,m,vs,.int n,rfl,rfl,i2,i4,?_⟩
         refine q B _ σ _ (Same.refl B) (r2.chg (d:=.dict kvs') (as:=l :: bs) hmi i2 trivial hv (jJ (by rw[a9 (Ne.symm hml)];exact hl2) i5) (KJ.mpr hnd) (λa ha=> .inl (by rw[hφ];exact ha)) trivial)
      ·have Se:jp kvs d=none:=by
        cases Se:jp kvs d with
        | none=>rfl
        | some z=>obtain⟨w,g1,_⟩:=oM N_ z Se;rw[hw] at g1;cases g1
       rw[CT Se] at q
       have hp3:upd (upd H1 p (.lst [])) l (.dct l (ks.1++[(d,y,.ref p)],ep)) p=some (.lst []):=by rw[a9 hpl,aB]
       refine⟨.inl ⟨rfl,[],iV.of hp3⟩,.int n,hvj,p,[],.int n,rfl,rfl,hp3,by decide,?_⟩
       have Wk:IsT X.K (upd H1 p (.lst [])) d y []:=aJ.toT _ _ (qd c1) Td
       have W9:B p=none:=r1.bs.free hp
       have hpφ:∀j,p∉φ j:=λj z=>by obtain⟨_,o,ho,_⟩:=r1.nb j p z;rw[hp] at ho;cases ho
       have hpb:p∉bs:=λz=>hpφ i (by rw[hφ];exact K9 _ z)
       have Oa:(l :: (bs++[p])).Nodup:=by
        rw[KJ,XX]
        refine⟨λz=> ?_,hnd.2,KJ.mpr ⟨by simp,X3⟩,λa ha b hb e=>hpb ?_⟩
        ·rcases Kk.mp z with z | z
         ·exact hnd.1 z
         ·exact hpl (K7.mp z).symm
        ·rw[←K7.mp hb,←e];exact ha
       have mid:aR X.K (upd H1 p (.lst [])) (kvs++[(d,.list [])]) (ks.1++[(d,y,.ref p)]) (bs++[p]):=rg Wk (ic aB lu) Np
       have r3:=r2.chg (o':=.dct l (ks.1++[(d,y,.ref p)],ep)) (d:=.dict (kvs++[(d,.list [])])) (as:=l :: (bs++[p])) hli hl2 trivial hv (jJ aB (aR.upd hl2 trivial _ _ _ (λz=>by rw[KJ] at Oa;exact Oa.1 z) mid)) Oa (λa ha=>by
        rcases K2.mp ha with z | z
        ·rw[z];exact .inl hli
        ·rcases Kk.mp z with z | z
         ·exact .inl (by rw[hφ];exact K9 _ z)
         ·rw[K7.mp z];exact .inr ⟨W9,hpφ⟩) trivial
       have hpi:p∈(λj'=>if j'=i then l :: (bs++[p]) else φ j') i:=by simp
       have Vt:aR X.K (upd (upd H1 p (.lst [])) l (.dct l (ks.1++[(d,y,.ref p)],ep))) kvs ks.1 bs:=aR.upd hl2 trivial _ _ _ hnd.1 Np
       have Vu:=aR.upd (o':=.lst ([]++[.int n])) hp3 trivial _ _ _ hpb Vt
       have Vv:IsT X.K (upd (upd (upd H1 p (.lst [])) l (.dct l (ks.1++[(d,y,.ref p)],ep))) p (.lst ([]++[.int n]))) d y []:=IsT.upd hp3 trivial _ _ _ (by simp) (IsT.upd hl2 trivial _ _ _ (by simp) Wk)
       have h5:aE X.K (upd (upd (upd H1 p (.lst [])) l (.dct l (ks.1++[(d,y,.ref p)],ep))) p (.lst ([]++[.int n]))) [PyData.int n] [V.int n] []:=aA.toT _ _ rfl (bq cx bM)
       have fin2:=rg Vv (ic (a:=p) (vs:=[V.int n]) aB h5) Vu
       have r4:=r3.chg (o':=.lst ([]++[.int n])) (d:=.dict (kvs++[(d,.list [.int n])])) (as:=l :: (bs++[p])) hpi hp3 trivial hv (jJ (by rw[a9 (Ne.symm hpl),aB]) fin2) Oa (λa ha=> .inl (by simpa using ha)) trivial
       rw[List.set_set] at r4
       exact q B _ σ _ (Same.refl B) r4
     ·rw[J6 hc] at q
      exact False.elim q
    | some (some (_,.none)),q|some (some (_,.bool _)),q|some (some (_,.str _)),q|some (some (_,.list _)),q|some (some (_,.tuple _)),q|some (some (_,.dict _)),q|some none,q|none,q=>cases q
   | some (.ex c),q=>exact .inr ⟨c,rfl,q⟩
   | none,q=>cases q
  | some (some (true,.none)),q|some (some (true,.bool _)),q|some (some (true,.int _)),q|some (some (true,.str _)),q|some (some (true,.tuple _)),q|some (some (true,.list _)),q|some (some (false,_)),q|some none,q|none,q=>cases q
end
end L2
namespace Y
open PySem
def CV:PyData->Option PyData
 | .list xs=>if aq xs then some (.list xs.reverse) else none
 | _=>none
def ni (n:Nat)(ds:List PyData)(w:PyData):bD:=ds.map (λd=>some (false,d))++some (true,w) :: List.replicate (n - (ds.length+1)) none
def runIO (n ir:Nat)(f:SF):List PyData->PyData->M (PyData×PyData):=λds w=>ar (f (ni n ds w)) λo=>match o with
 | .nx Γ=>(match Γ[ir]?,Γ[ds.length]? with
  | some (some (true,.list xs)),some (some (true,.dict kvs))=>ah (.list xs,.dict kvs)
  | _,_=>none)
 | _=>none
def pI:Kd->Bool
 | .base=>true
 | _=>false
def Hy (iw:Nat)(F:List PyData->PyData->M (PyData×PyData))(f1 f2:EF)(g:GF)(b:SF):SF:=λΓ=>match Γ[iw]? with
 | some (some (true,.dict kvs))=>ar (f1 Γ) λx=>ar (f2 Γ) λy=>if pI x.1=true/\pI y.1=true then (match F [x.2,y.2] (.dict kvs) with
  | some (.ok (.list ds,.dict kvs'))=>bj g b ds (Γ.set iw (some (true,.dict kvs')))
  | _=>none) else none
 | _=>none
end Y
namespace L2
open PySem PySem.Spec PyProof.Rows Y
section
variable {K:Frag}{H H':Hp}
theorem gz.via (e:∀a o,H a=some o->¬ hZ o->H' a=some o){a:Addr}{xs:List V}(h:gz K H a xs):gz K H' a xs:=by
 rcases h with(h | ⟨o,h⟩) | h
 ·exact .inl (.inl (e _ _ h (λz=>z)))
 ·exact .inl (.inr ⟨o,e _ _ h (λz=>z)⟩)
 ·exact .inr h
mutual
theorem IsT.via (e:∀a o,H a=some o->¬ hZ o->H' a=some o):∀(d:PyData) (v:V) (as:List Addr),(∀a∈as,∀o,H a=some o->H' a=some o)->IsT K H d v as->IsT K H' d v as
 | .none,v,as,_,h=>by simpa only[IsT] using h
 | .bool b,v,as,_,h=>by simpa only[IsT] using h
 | .int i,v,as,_,h=>by simpa only[IsT] using h
 | .str x,v,as,_,h=>by simpa only[IsT] using h
 | .list xs,v,as,n,h=>by
  simp only[IsT] at h⊢
  obtain⟨a,vs,bs,e1,h1,h2,rfl⟩:=h
  exact⟨a,vs,bs,e1,n a K8 _ h1,aE.via e xs vs bs (λb hb=>n b (K9 _ hb)) h2,rfl⟩
 | .tuple xs,v,as,n,h=>by
  simp only[IsT] at h⊢
  obtain⟨a,vs,e1,h1,h2⟩:=h
  exact⟨a,vs,e1,h1.via e,aE.via e xs vs as n h2⟩
 | .dict kvs,v,as,n,h=>by
  simp only[IsT] at h⊢
  obtain⟨a,ks,bs,e1,h1,h2,rfl⟩:=h
  exact⟨a,ks,bs,e1,n a K8 _ h1,aR.via e kvs ks.1 bs (λb hb=>n b (K9 _ hb)) h2,rfl⟩
theorem aE.via (e:∀a o,H a=some o->¬ hZ o->H' a=some o):∀(ds:List PyData) (vs:List V) (as:List Addr),(∀a∈as,∀o,H a=some o->H' a=some o)->aE K H ds vs as->aE K H' ds vs as
 | [],vs,as,_,h=>by simpa only[aE] using h
 | d :: ds,vs,as,n,h=>by
  simp only[aE] at h⊢
  obtain⟨v,r,a1,a2,e1,rfl,h1,h2⟩:=h
  exact⟨v,r,a1,a2,e1,rfl,IsT.via e d v a1 (λb hb=>n b (KY _ hb)) h1,aE.via e ds r a2 (λb hb=>n b (K1 _ hb)) h2⟩
theorem aR.via (e:∀a o,H a=some o->¬ hZ o->H' a=some o):∀(ds:List (PyData×PyData)) (ks:List (PyData×V×V)) (as:List Addr),(∀a∈as,∀o,H a=some o->H' a=some o)->aR K H ds ks as->aR K H' ds ks as
 | [],ks,as,_,h=>by simpa only[aR] using h
 | (k,d) :: r,ks,as,n,h=>by
  simp only[aR] at h⊢
  obtain⟨kv,v,q,a1,a2,e1,rfl,h1,h2,h3⟩:=h
  exact⟨kv,v,q,a1,a2,e1,rfl,IsT.via e k kv [] (λb hb=>by cases hb) h1,IsT.via e d v a1 (λb hb=>n b (KY _ hb)) h2,aR.via e r q a2 (λb hb=>n b (K1 _ hb)) h3⟩
end
end
section
variable {X:Cx}{K:Frag}{Ew:Str->Hp->Prop}{iw:Nat}{a:Addr}{pos p:Pos}{st:Stmt}{rest ss:List Stmt}{f g:SF}{t:TF}{o j e:Expr}{fe fj:EF}{apos cpos:Pos}
def Hold (iw:Nat)(a:Addr)(σ:St):Prop:=σ[iw]? =some (some (.ref a))
theorem Hold.set {σ:St}{i:Nat}{v:Option V}(h:Hold iw a σ)(hi:i≠iw):Hold iw a (σ.set i v):=by
 unfold Hold
 rw[XY hi];exact h
theorem Hold.sets:∀{is:List Nat} {vs:List V} {σ:St},(∀i∈is,i≠iw)->Hold iw a σ->Hold iw a (uS σ is vs)
 | [],vs,σ,_,h=>by cases vs <;> exact h
 | i :: is,[],σ,_,h=>h
 | i :: is,v :: vs,σ,n,h=>Hold.sets (is:=is) (vs:=vs) (λj hj=>n j (K9 _ hj)) (h.set (n i K8))
def Q5 (iw:Nat)(a:Addr)(D:Ends):Ends:={nx:=λσ H=>Hold iw a σ->D.nx σ H,rt:=D.rt,bk:=λσ H=>Hold iw a σ->D.bk σ H,ct:=λσ H=>Hold iw a σ->D.ct σ H}
def tZ (K:Frag)(Ew:Str->Hp->Prop)(iw:Nat)(a:Addr)(f:SF):TS:=λD σ H=>Hold iw a σ/\S3 K Ew f (Q5 iw a D) σ H
def ZS (X:Cx)(K:Frag)(Ew:Str->Hp->Prop)(iw:Nat)(a:Addr)(s:Stmt)(f:SF):Prop:=PS X s (tZ K Ew iw a f)
def Q6 (X:Cx)(K:Frag)(Ew:Str->Hp->Prop)(iw:Nat)(a:Addr)(s:List Stmt)(f:SF):Prop:=xn X s (tZ K Ew iw a f)
theorem Ob:Q6 X K Ew iw a [] cA:=G2.imp λD σ H q=>by
 obtain⟨z,B,φ,Γ,r,q⟩:=q
 exact q B φ σ H (Same.refl B) r z
theorem Hz (h:ZS X K Ew iw a st f):Q6 X K Ew iw a [st] f:=zk h
theorem LK (h1:ZS X K Ew iw a st f)(h2:Q6 X K Ew iw a rest g):Q6 X K Ew iw a (st :: rest) (au f g):=(uD h1 h2).imp λD σ H q=>by
 obtain⟨z,B,φ,Γ,r,q⟩:=q
 refine⟨z,B,φ,Γ,r,?_⟩
 unfold au at q
 match hm:f Γ,q with
 | some (.ok (.nx Γ')),q=>exact λB' φ' σ' H' s' r' z'=>⟨z',B',φ',Γ',r',fB.base s' q⟩
 | some (.ok (.bk Γ')),q=>exact q
 | some (.ok (.ct Γ')),q=>exact q
 | some (.ok (.rt o d)),q=>exact q
 | some (.ex c),q=>exact q
 | none,q=>cases q
theorem Te {c:Expr}{x y:List Stmt}(hc:DT X K Ew c t)(hx:Q6 X K Ew iw a x f)(hy:Q6 X K Ew iw a y g):ZS X K Ew iw a (.If c x y pos) (jm t f g):=(Pm hc hx hy).imp λD σ H q=>by
 obtain⟨z,B,φ,Γ,r,q⟩:=q
 refine⟨B,φ,Γ,r,?_⟩
 unfold jm at q
 match hm:t Γ,q with
 | some (.ok true),q=>exact .inl ⟨true,rfl,λH1 s=>by show(if true=true then _ else _);rw[J5 rfl];exact⟨z,B,φ,Γ,r.same s,q⟩⟩
 | some (.ok false),q=>exact .inl ⟨false,rfl,λH1 s=>by show(if false=true then _ else _);rw[J6 K3];exact⟨z,B,φ,Γ,r.same s,q⟩⟩
 | some (.ex c),q=>exact .inr ⟨c,rfl,q⟩
 | none,q=>cases q
theorem Q7 {i:Nat}{x:Str}{pos':Pos}(hN:X.N.Nodup)(hi:X.N[i]? =some x)(hx:Loc X.env.scope x)(he:DE X K Ew e fe)(hw:i≠iw:=by decide)(hs:swapsWith e (some (.Name x pos')) pos.line X.env=pure false:=by rfl)(hf:X.fn x=true∨X.env.scope.names.lookup x=some .local:=by first | exact .inl rfl | exact .inr rfl | assumption) :
  ZS X K Ew iw a (.Assign [.Name x pos'] e pos) (aC i fe):=(Ff (i:=i) hN hi hx he hs hf).imp λD σ H q=>
 jq (g:=λx Γ=>ah (.nx (kP Γ i x.1 x.2))) q.2 λB φ Γ k d v H1 r a q'=>by
  obtain⟨B',φ',s',r'⟩:=lY r i a
  exact q' B' φ' _ H1 s' r' (q.1.set hw)
def Wl (K:Frag)(iw:Nat)(a:Addr)(g:GF):TG:=λv σ H Q=>Hold iw a σ/\tG K g v σ H (λσ' H'=>Hold iw a σ'->Q σ' H')
theorem Tf {es:List Expr}{k:Nat}{is:List Nat}(hc:X.calm=true)(hg:R9 X es (zF is))(hw:∀i∈is,i≠iw:=by decide)(hn:(assignEach es X.env).length=is.length:=by rfl)(hst:(assignEach es X.env).findIdx? (·.1)=none:=by rfl)(hK:X.K=K:=by rfl) :
  PG X (.Tuple es k pos) (Wl K iw a (mI is)):=(KA (n:=is.length) hc hg hn hst).imp λv σ H Q q=>by
 obtain⟨z,B,φ,Γ,k,d,Γ',r,av,e,q⟩:=q
 cases d <;> simp only[mI] at e <;> try (cases e;done)
 rename_i ds
 split at e
 ·rename_i hl
  cases e
  obtain⟨a',vs,rfl,hq,av,hlen⟩:=av.tup r.bs
  refine⟨a',vs,rfl,by rw[hK];exact hq,by omega,pC _ _ _ _ _ (by omega) ?_⟩
  obtain⟨B',φ',s',r'⟩:=lA (Cz k) is ds vs hl r av
  exact q B' φ' _ s' r' (z.sets hw)
 ·cases e
theorem Q8 {tg iter:Expr}{body:List Stmt}{it:IF}{g:GF}{fb:SF}(hp:PassesOwn (model X.prog X.w) X.A X.env X.xe)(hc:X.calm=true)(hi:DI X K Ew tg iter it)(hg:PG X tg (Wl K iw a g))(hb:Q6 X K Ew iw a body fb)
  (hs:∀x,foldedSetIterable iter X.env x=pure x:=by intro _;rfl):ZS X K Ew iw a (.For tg iter body [] pos) (bU it g fb):=(Fi hp hc hi hg hb hs).imp λD σ H q=>by
 obtain⟨z,B,φ,Γ,r,q⟩:=q
 refine⟨B,φ,Γ,r,?_⟩
 unfold bU at q
 match hm:it Γ,q with
 | some (.ok (k,ds)),q=>
  intro J H1 B1 ψ s0 s1 r1 io
  have q:fB K Ew B1 (bj g fb ds (mS k Γ)) (Q5 iw a D):=fB.base s1 q
  refine⟨λi m σ H=>m=ds.length - i/\i<=ds.length/\Hold iw a σ/\∃B2 φ2 Γ2,Same B1 B2/\Rep K B2 φ2 Γ2 σ H/\fB K Ew B1 (bj g fb (ds.drop i) Γ2) (Q5 iw a D),⟨ds.length,by simp,Xu _,z,B1,ψ,_,Same.refl B1,r1,by simpa using q⟩,?_⟩
  rintro i m σ2 H2 ⟨rfl,hi2,z2,B2,φ2,Γ2,s2,r2,q2⟩
  by_cases hlt:i < ds.length
  ·refine .inr ⟨io.go i H2 hlt (s2.trans r2.bs),λσ' H'=>Hold iw a σ'/\∃B3 φ3 Γ3,Same B1 B3/\Rep K B3 φ3 Γ3 σ' H'/\fB K Ew B1 (bj g fb (ds.drop (i+1)) Γ3) (Q5 iw a D),λσ' H' h'=>⟨ds.length - (i+1),by omega,rfl,hlt,h'⟩,λx H' y=> ?_⟩
   obtain⟨s3,d,e,hd⟩:=io.yl i H2 x H' hlt (s2.trans r2.bs) y
   have r3:=r2.same s3
   have Lm:aJ K (jw φ2 H') d x:=hd _ (s2.trans r3.zE) λb o e1 e2=>by
    rw[fF]
    ·exact e2
    ·intro j hj
     obtain⟨o',e',_⟩:=(r2.nb j b hj).2
     rw[e1] at e';cases e'
   have ed:ds.drop i=d :: ds.drop (i+1):=by
    rw[Yy hlt]
    congr 1
    rw[K5 hlt] at e
    exact Option.some.inj e
   rw[ed] at q2
   have q3:=q2
   simp only[bj] at q3
   cases Ln:g (eR .base d) d Γ2 with
   | none=>simp only[Ln] at q3;exact False.elim q3
   | some Γ3=>
    simp only[Ln,cw,ay] at q3
    refine⟨z2,jw φ2 H',φ2,Γ2,eR .base d,d,Γ3,r3.cut,VR.av r3.cut (VR.eR (lz _ _) (show VR K _ φ2 H' H' .base d x from Lm)),Ln,λB4 φ4 σ4 s4 r4 z4=> ?_⟩
    have sB:Same B1 B4:=(s2.trans r3.zE).trans s4
    refine⟨z4,B4,φ4,Γ3,r4,?_⟩
    match hbm:fb Γ3,q3 with
    | some (.ok (.nx Γ')),q3=>exact λB' φ' σ' mJ s' r' z'=>⟨z',B',φ',Γ',sB.trans s',r',q3⟩
    | some (.ok (.ct Γ')),q3=>exact λB' φ' σ' mJ s' r' z'=>⟨z',B',φ',Γ',sB.trans s',r',q3⟩
    | some (.ok (.bk Γ')),q3=>exact λB' φ' σ' mJ s' r' z'=>q3 B' φ' σ' mJ (sB.trans s') r' z'
    | some (.ok (.rt o d)),q3=>exact λv mJ s' rv=>q3 v mJ (sB.trans s') (rv.base sB)
    | some (.ex c),q3=>exact λmJ s'=>q3 mJ (sB.trans s')
    | none,q3=>exact False.elim q3
  ·have e:i=ds.length:=by omega
   subst e
   rw[List.drop_length] at q2
   exact .inl ⟨io.stop H2 (s2.trans r2.bs),q2 B2 φ2 σ2 H2 s2 r2 z2⟩
 | some (.ex c),q=>exact q
 | none,q=>cases q
end
end L2
namespace L2
open PySem PySem.Spec PyProof.Rows Y
section
variable {X:Cx}{K:Frag}{Ew:Str->Hp->Prop}{iw:Nat}{a:Addr}{pos p pos':Pos}{st:Stmt}{rest ss:List Stmt}{f g:SF}{o j e:Expr}{fe fj:EF}{apos cpos:Pos}
theorem Oc (hu:X.A.units+80 < cLine){i:Nat}(ho:PE X o (pd i))(hj:DE X K Ew j fj)(he:DE X K Ew e fe)(hK:X.K=K:=by rfl)
  (ha:∀v,assign (.Subscript o j p) X.env v=(do
   let ov←holding [v] (eval o X.env)
   let iv←holding [v,ov] (eval j X.env)
   standAt p
   holding [v,ov,iv] (setItem ov iv v)
   release [v,ov,iv] []):=by intro _;rfl)
  (hs:swapsWithSole [.Subscript o j p] e pos.line X.env=pure false:=by rfl) (hw:swappedStores [.Subscript o j p] e X.env=pure none:=by rfl)
  (h1:(assignEach [.Subscript o j p] X.env).map (·.2)=[assign (.Subscript o j p) X.env]:=by rfl):ZS X K Ew iw a (.Assign [.Subscript o j p] e pos) (uN i fj fe) :=
 (zl he (Fe ho hj (Hv hu) ha) hs hw h1).imp λD σ H q=>
  jq (g:=λx Γ=>match Γ[i]? with
   | some (some (true,.dict kvs))=>ar (fj Γ) λy=>if gA kvs y.2=true/\bL x.2=true/\gB kvs=true/\kvs.length < sizeLine then ah (.nx (Γ.set i (some (true,.dict (putK kvs y.2 x.2))))) else none
   | _=>none) q.2 λB φ Γ k d y H1 r av q'=>by
   have z:=q.1
   replace q:=q'
   clear q'
   subst hK
   match hg:Γ[i]?,q with
   | some (some (true,.dict kvs)),q=>
    obtain⟨v,hv,hT⟩:=r.own hg
    obtain⟨l,ks,bs,rfl,hl,ht,hφ⟩:=fO hT
    have hli:l∈φ i:=by rw[hφ];exact K8
    refine⟨.ref l,hv,B,φ,Γ,r,?_⟩
    match hm:fj Γ,q with
    | some (.ok (k',d')),q=>
     refine .inl ⟨k',d',rfl,λw H2 s2 hw=> ?_⟩
     have r2:=r.same s2
     replace q:fB X.K Ew B (if gA kvs d'=true/\bL d=true/\gB kvs=true/\kvs.length < sizeLine then ah (.nx (Γ.set i (some (true,.dict (putK kvs d' d))))) else none) (Q5 iw a D):=q
     by_cases hc:gA kvs d'=true/\bL d=true/\gB kvs=true/\kvs.length < sizeLine
     ·rw[J5 hc] at q
      obtain⟨c1,c2,c3,c4⟩:=hc
      have hbs:bs=[]:=qi ht c3
      subst hbs
      have hdk:=a_.same s2 _ _ (aR.toD _ _ _ ht)
      have hkd:=hw.toD r2.bs
      have hdd:=aJ.same s2 _ _ (av.toD r.bs)
      refine⟨l,ks,kvs,d',rfl,s2 _ _ hl,hdk,hkd,c1,by rw[jr hdk];exact c4,λep=> ?_⟩
      have hkn:∀p∈kvs,bL p.1=true:=λp hp=>by
       have:=ht
       exact ux ht p hp
      have QX:=vb hdk hkd hdd
      have hn2:∀p∈putK kvs d' d,bL p.1=true:=λp hp=>by
       unfold putK at hp
       split at hp
       ·obtain⟨q',hq',rfl⟩:=Ky.mp hp
        split
        ·exact hkn q' hq'
        ·exact hkn q' hq'
       ·rcases Kk.mp hp with hp | hp
        ·exact hkn p hp
        ·rw[K7.mp hp];exact zW c1
      have hnew:=aR.upd (o':=.dct l (qe ks.1 d' w y,ep)) (s2 _ _ hl) trivial _ _ _ (show l∉[] by simp) (oK QX hn2 (vd c3 c2))
      exact q B _ σ _ (Same.refl B) (r2.chg (d:=.dict (putK kvs d' d)) (as:=[l]) hli (s2 _ _ hl) trivial hv (jJ aB hnew) (KJ.mpr ⟨by simp,X3⟩) (λb ha=> .inl (by rw[K7.mp ha];exact hli)) trivial) z
     ·rw[J6 hc] at q
      exact False.elim q
    | some (.ex c),q=>exact .inr ⟨c,rfl,q⟩
    | none,q=>cases q
   | some (some (true,.none)),q|some (some (true,.bool _)),q|some (some (true,.int _)),q|some (some (true,.str _)),q|some (some (true,.tuple _)),q|some (some (true,.list _)),q|some (some (false,_)),q|some none,q|none,q=>cases q
theorem Q9 {i:Nat}(ho:PE X o (pd i))(he:DE X K Ew e fe)(hK:X.K=K:=by rfl)
  (hbase:attributeBase o "extend" X.env (eval o X.env)=eval o X.env:=by rfl)
  (hfew:((backTo cpos (starEach [e] X.env)).all (λx=> !x.1) && (backToKw cpos (keywordEach [] X.env)).all (λx=>x.1.isSome)
   && decide (([e]:List Expr).length+([]:List Keyword).length+(if ([]:List Keyword).isEmpty then 0 else 1) < 30))=true:=by rfl)
  (hline:(apos.endLine==cpos.line)=true:=by rfl) (hs:starEach [e] X.env=(false,eval e X.env) :: starEach [] X.env:=by rfl) (hplain:(backTo cpos (starEach [] X.env)).any (·.1)=false:=by rfl)
  (hsw:swapsWith (.Call (.Attribute o "extend" apos) [e] [] cpos) none pos.line X.env=pure false:=by rfl) :
  ZS X K Ew iw a (.Expr (.Call (.Attribute o "extend" apos) [e] [] cpos) pos) (Fy i fe) :=
 (pZ (Ha PySem.F.plainAttrs_list PySem.F.slot_list_extend PySem.F.type_list_extend Hn ho (b9 he fz hs) hbase hfew hline hs hplain) hsw).imp λD σ H q=>by
  obtain⟨z,B,φ,Γ,r,q⟩:=q
  unfold Fy at q
  match hg:Γ[i]?,q with
  | some (some (true,.list xs)),q=>
   obtain⟨v,hv,hT⟩:=r.own hg
   obtain⟨l,vs,bs,rfl,hl,ht,hφ⟩:=dE hT
   refine⟨.ref l,hv,.inl ⟨rfl,vs,iV.of hl⟩,B,φ,Γ,r,?_⟩
   match hm:fe Γ,q with
   | some (.ok (k,d)),q=>
    refine .inl ⟨k,d,rfl,λy H1 s1 hy=> ?_⟩
    have r1:=r.same s1
    have hl1:=s1 _ _ hl
    have hlen:vs.length=xs.length:=df ht
    have hli:l∈φ i:=by rw[hφ];exact K8
    replace q:fB K Ew B (match Fx k d with
     | some ys=>if aq ys=true/\xs.length+ys.length<=sizeLine then ah (.nx (Γ.set i (some (true,.list (xs++ys))))) else none
     | none=>none) (Q5 iw a D):=q
    have hd:=hy.toD r1.bs
    have hnd:=r.nd i
    rw[hφ] at hnd
    have hnb:l∉bs:=(KJ.mp hnd).1
    have main:∀(b:Addr) (ws:List V) (ys:List PyData),y= .ref b->Fx k d=some ys->(l=b->∃o,K.lookup b=some o)->(iV K H1 b ws∨gz K H1 b ws)->aA K H1 ys ws->Lv X.K (.ref l) [y] H1 λ_ H1=>D.nx σ H1:=λb ws ys ey ei Vh hb hws=>by
     rw[ei] at q
     by_cases hc:aq ys=true/\xs.length+ys.length<=sizeLine
     ·replace q:fB K Ew B (ah (.nx (Γ.set i (some (true,.list (xs++ys)))))) (Q5 iw a D):=by simpa only[J5 hc] using q
      subst ey
      refine⟨l,b,vs,ws,rfl,rfl,hl1,by rw[hK];exact Vh,by rw[hK];exact hb,by rw[ap hws];omega,?_⟩
      refine q B _ σ _ (Same.refl B) (r1.chg (d:=.list (xs++ys)) (as:=l :: bs) hli hl1 trivial hv ?_ hnd (λa ha=> .inl (by rw[hφ];exact ha)) trivial) z
      have h1:=aE.upd (o':=.lst (vs++ws)) hl1 trivial _ _ _ hnb (aE.same s1 _ _ _ ht)
      have h2:=aE.upd (o':=.lst (vs++ws)) hl1 trivial _ _ _ (show l∉[] by simp) (aA.toT _ _ hc.1 hws)
      have h3:=fP h1 h2
      rw[Xx] at h3
      exact ic aB h3
     ·simp only[J6 hc] at q
      exact False.elim q
    cases d <;> try (exact False.elim q)
    ·rename_i ys
     match k,hy,q,main with
     | .fr [],hy,q,main=>
      obtain⟨as,h1,h2,h3⟩:=hy
      obtain⟨b,ws,cs,ey,hb,hws,rfl⟩:=dE h1
      refine main b ws ys ey rfl (λz=> ?_) (.inl (iV.of hb)) (aE.toD _ _ _ hws)
      rcases h3 b K8 with⟨_,w,_⟩ | w
      ·cases w
      ·rw[←z,hl] at w;cases w
     | .base,hy,q,main=>
      obtain⟨b,ws,ey,hb,hws⟩:=bg (show aJ K B (.list ys) y from hy)
      refine main b ws ys ey rfl (λz=> ?_) (.inl (r1.bs.seq hb)) (aA.same r1.bs _ _ hws)
      have hB:=(r.nb i l hli).1
      rcases hb with(w | ⟨o,w⟩) | ⟨o,_,_,w,_⟩
      ·rw[←z,hB] at w;cases w
      ·rw[←z,hB] at w;cases w
      ·exact⟨o,w⟩
     | .fr (_ :: _),hy,q,main=>exact False.elim q
     | .any,hy,q,main=>exact False.elim q
    ·rename_i ys
     obtain⟨b,ws,ey,hb,hws⟩:=aM hd
     refine main b ws ys ey rfl (λz=> ?_) (.inr hb) hws
     rcases hb with(w | ⟨o,w⟩) | ⟨o,_,_,w,_⟩
     ·rw[←z,hl1] at w;cases w
     ·rw[←z,hl1] at w;cases w
     ·exact⟨o,w⟩
   | some (.ex c),q=>exact .inr ⟨c,rfl,q⟩
   | none,q=>cases q
  | some (some (true,.none)),q|some (some (true,.bool _)),q|some (some (true,.int _)),q|some (some (true,.str _)),q|some (some (true,.tuple _)),q|some (some (true,.dict _)),q|some (some (false,_)),q|some none,q|none,q=>cases q
def T7 (K:Frag)(Ew:Str->Hp->Prop)(iw:Nat)(a:Addr)(ir:Nat)(f:SF):TS:=λD σ H=>Hold iw a σ/\∃B φ Γ,Rep K B φ Γ σ H/\match f Γ with
 | some (.ok (.nx Γ'))=>(∃o d,Γ'[ir]? =some (some (o,d)))/\∀B' φ' σ' H' v,Same B B'->Rep K B' φ' Γ' σ' H'->Hold iw a σ'->σ'[ir]? =some (some v)->D.rt v H'
 | _=>False
theorem LL {ir:Nat}(he:PE X e (pd ir)):xn X [.Return (some e) pos] (T7 K Ew iw a ir cA):=(zk (Ks he)).imp λD σ H q=>by
 obtain⟨z,B,φ,Γ,r,⟨o,d,e⟩,q⟩:=q
 obtain⟨v,hv,_⟩:=r.sl ir o d e
 exact⟨v,hv,q B φ σ H v (Same.refl B) r z hv⟩
theorem CW {ir:Nat}(h1:ZS X K Ew iw a st f)(h2:xn X rest (T7 K Ew iw a ir g))(hE:∀c H,¬ Ew c H:=by exact λ_ _ h=>h):xn X (st :: rest) (T7 K Ew iw a ir (au f g)):=(uD h1 h2).imp λD σ H q=>by
 obtain⟨z,B,φ,Γ,r,q⟩:=q
 refine⟨z,B,φ,Γ,r,?_⟩
 unfold au at q
 match hm:f Γ,q with
 | some (.ok (.nx Γ')),q=>
  refine λB' φ' σ' H' s' r' z'=>⟨z',B',φ',Γ',r',?_⟩
  have q:match g Γ' with
   | some (.ok (.nx Γ'))=>(∃o d,Γ'[ir]? =some (some (o,d)))/\∀B' φ' σ' H' v,Same B B'->Rep K B' φ' Γ' σ' H'->Hold iw a σ'->σ'[ir]? =some (some v)->D.rt v H'
   | _=>False:=q
  match hm2:g Γ',q with
  | some (.ok (.nx Γ2)),q=>exact⟨q.1,λB2 φ2 σ2 H2 v s2=>q.2 B2 φ2 σ2 H2 v (s'.trans s2)⟩
  | some (.ok (.bk Γ2)),q|some (.ok (.ct Γ2)),q|some (.ok (.rt o d)),q|some (.ex c),q|none,q=>cases q
 | some (.ok (.bk Γ')),q|some (.ok (.ct Γ')),q|some (.ok (.rt o d)),q|some (.ex c),q|none,q=>cases q
end
def Q_ (K:Frag)(n:Nat)(F:List PyData->PyData->M (PyData×PyData)):Sp:=λvs H Q _=>∃(B:Hp) (ds:List PyData) (kvs:oZ) (ws:List V) (a:Addr) (as:List Addr),ds.length=n/\vs=ws++[.ref a]/\Same B H/\aA K B ds ws/\IsT K H (.dict kvs) (.ref a) as/\as.Nodup/\(∀x∈as,B x=none/\∃o,H x=some o/\hZ o)/\match F ds (.dict kvs) with
 | some (.ok (.list xs,.dict kvs'))=>∀v H' a1 a2,Same B H'->IsT K H' (.list xs) v a1->IsT K H' (.dict kvs') (.ref a) a2->a1.Nodup->a2.Nodup->(∀x∈a1,x∉a2)->(∀x,x∈a1∨x∈a2->B x=none/\∃o,H' x=some o/\hZ o)->Q v H'
 | _=>False
theorem FJ {n:Nat}{ds:List PyData}{w:PyData}{i:Nat}{o:Bool}{d:PyData}(h:(ni n ds w)[i]? =some (some (o,d))):(i < ds.length/\ds[i]? =some d/\o=false)∨(i=ds.length/\d=w/\o=true):=by
 unfold ni at h
 by_cases hi:i < ds.length
 ·rw[XQ (by simpa using hi),Kj] at h
  cases hd:ds[i]? with
  | none=>rw[hd] at h;cases h
  | some d'=>rw[hd] at h;cases h;exact .inl ⟨hi,rfl,rfl⟩
 ·rw[Uq (by simpa using hi),K4] at h
  by_cases h0:i=ds.length
  ·subst h0
   rw[Nat.sub_self] at h
   cases h
   exact .inr ⟨rfl,rfl,rfl⟩
  ·obtain⟨m,hm⟩:∃m,i - ds.length=m+1:=⟨i - ds.length - 1,by omega⟩
   rw[hm,Yw,List.getElem?_replicate] at h
   split at h <;> cases h
theorem FK {K:Frag}{B H:Hp}{ds:List PyData}{w:PyData}{ws:List V}{v:V}{as:List Addr}(N:List Str)(hN:ds.length+1<=N.length)(s:Same B H)(h:aA K B ds ws)(ht:IsT K H w v as)(hnd:as.Nodup)(hb:∀x∈as,B x=none/\∃o,H x=some o/\hZ o) :
  Rep K B (λi=>if i=ds.length then as else []) (ni N.length ds w) (start N (ws++[v])) H:=by
 have hl:=ap h
 exact {
  bs:=s
  len:=by
   unfold ni start
   simp only[Kx,K4,Kv,List.length_replicate,Uj,hl]
   omega
  sl:=λi o d e=>by
   rcases FJ e with⟨h1,h2,rfl⟩ | ⟨rfl,rfl,rfl⟩
   ·obtain⟨u,h3,h4⟩:=j2 h h2
    refine⟨u,?_,by rw[J6 K3];exact h4⟩
    unfold start
    rw[XQ (by rw[K4,Kx,hl];omega),Kj,XQ (by omega),h3];rfl
   ·refine⟨v,?_,by rw[J5 rfl,J5 rfl];exact ht⟩
    unfold start
    rw[XQ (by rw[K4,Kx,hl,X8];omega),Kj,Uq (by omega),hl,Nat.sub_self];rfl
  nd:=λi=>by
   show(if i=ds.length then as else []).Nodup
   split
   ·exact hnd
   ·exact X3
  nb:=λi x hx=>by
   replace hx:x∈(if i=ds.length then as else []):=hx
   split at hx
   ·exact hb x hx
   ·cases hx
  dj:=λi k hik x hx hx'=>by
   replace hx:x∈(if i=ds.length then as else []):=hx
   replace hx':x∈(if k=ds.length then as else []):=hx'
   split at hx
   ·split at hx'
    ·omega
    ·cases hx'
   ·cases hx}
theorem Vw {P:Program}{w:World}{K:Frag}{mg:Str->Option Value}{base:Heap}{x qual:Str}{st:Stmt}{f:Addr}{fd:FuncData}{N ps:List Str}(k n m ir:Nat){fb:SF}(hn:N.length=n)(hm:ps.length=m+1)(F:ll K x qual st f fd)(S:aL N ps (ag st))(W_:ir≠m)(hmn:m+1<=n)
  (hbody:∀(cdv:Value) (A:Around) (outer:List Env) (s:Shared) (H:Hp) (E:XK) (a:Addr),hX k (A.deeper (envOfC qual (ag st) s.heap.objs.size f cdv))->
   xn (zm kx P w K mg base N qual (ag st) f cdv A outer s H E).Kr (aH st) (T7 K (λ_ _=>False) m a ir fb)):cu P w K mg base kx (k+1) f fd ps (Q_ K m (runIO n ir fb)):=by
 subst hn
 refine F.ok S (λvs H Q E h=> ?_) λcdv A outer s H vs Q E hr h=> ?_
 ·obtain⟨B,ds,kvs,ws,a,as,h1,rfl,_,h2,_⟩:=h
  rw[Kx,ap h2,h1,hm];rfl
 ·obtain⟨B,ds,kvs,ws,a,as,h1,rfl,h3,h4,h5,h6,h7,h8⟩:=h
  subst h1
  refine⟨_,hbody cdv A outer s H E a hr,?_,B,_,_,FK N hmn h3 h4 h5 h6 h7,?_⟩
  ·unfold Hold start
   have hl:=ap h4
   rw[XQ (by rw[K4,Kx,hl,X8];omega),Kj,Uq (by omega),hl,Nat.sub_self];rfl
  ·unfold runIO at h8
   match hf:fb (ni N.length ds (.dict kvs)),h8 with
   | some (.ok (.nx Γ)),h8=>
    simp only[ar] at h8
    match e1:Γ[ir]?,e2:Γ[ds.length]?,h8 with
    | some (some (true,.list xs)),some (some (true,.dict kvs')),h8=>
     refine⟨⟨true,.list xs,e1⟩,λB' φ' σ' H' v s' r' z' hv=> ?_⟩
     obtain⟨v1,g1,g2⟩:=r'.own e1
     obtain⟨v2,g3,g4⟩:=r'.own e2
     rw[hv] at g1
     cases g1
     rw[show σ'[ds.length]? =some (some (V.ref a)) from z'] at g3
     cases g3
     refine h8 v H' _ _ (s'.trans r'.bs) g2 g4 (r'.nd ir) (r'.nd _) (λy hy=>r'.dj ir _ W_ y hy) λy hy=> ?_
     have nb:B' y=none/\∃o,H' y=some o/\hZ o:=by
      rcases hy with hy | hy
      ·exact r'.nb ir y hy
      ·exact r'.nb _ y hy
     exact⟨s'.free nb.1,nb.2⟩
   | some (.ok (.bk Γ)),h8=>exact False.elim h8
   | some (.ok (.ct Γ)),h8=>exact False.elim h8
   | some (.ok (.rt o d)),h8=>exact False.elim h8
   | some (.ex c),h8=>exact False.elim h8
   | none,h8=>exact False.elim h8
section
variable {X:Cx}{K:Frag}{Ew:Str->Hp->Prop}{pos pos' p:Pos}
theorem II {ds:List PyData}{g:GF}{fb:SF}{D:Ends}{J:It}{B1 H1:Hp}{ψ:Nat->List Addr}{Γ1:bD}{σ:St}(r1:Rep K B1 ψ Γ1 σ H1)(io:zG K B1 J ds)(q:fB K Ew B1 (bj g fb ds Γ1) D) :
  ∃W:Nat->Nat->St->Hp->Prop,(∃m,W 0 m σ H1)/\∀i m σ H,W i m σ H->(J.stop i H/\D.nx σ H)∨(J.go i H/\∃N:St->Hp->Prop,(∀σ' H',N σ' H'->∃m',m' < m/\W (i+1) m' σ' H')/\∀x H',J.Sw i H x H'->tG K g x σ H' λσ2 H2=>S3 K Ew fb {D with nx:=N,ct:=N,bk:=D.nx} σ2 H2):=by
 refine⟨λi m σ H=>m=ds.length - i/\i<=ds.length/\∃B2 φ2 Γ2,Same B1 B2/\Rep K B2 φ2 Γ2 σ H/\fB K Ew B1 (bj g fb (ds.drop i) Γ2) D,⟨ds.length,by simp,Xu _,B1,ψ,_,Same.refl B1,r1,by simpa using q⟩,?_⟩
 rintro i m σ2 H2 ⟨rfl,hi2,B2,φ2,Γ2,s2,r2,q2⟩
 by_cases hlt:i < ds.length
 ·refine .inr ⟨io.go i H2 hlt (s2.trans r2.bs),λσ' H'=>∃B3 φ3 Γ3,Same B1 B3/\Rep K B3 φ3 Γ3 σ' H'/\fB K Ew B1 (bj g fb (ds.drop (i+1)) Γ3) D,λσ' H' h'=>⟨ds.length - (i+1),by omega,rfl,hlt,h'⟩,λx H' y=> ?_⟩
  obtain⟨s3,d,e,hd⟩:=io.yl i H2 x H' hlt (s2.trans r2.bs) y
  have r3:=r2.same s3
  have Lm:aJ K (jw φ2 H') d x:=hd _ (s2.trans r3.zE) λa o e1 e2=>by
   rw[fF]
   ·exact e2
   ·intro j hj
    obtain⟨o',e',_⟩:=(r2.nb j a hj).2
    rw[e1] at e';cases e'
  have ed:ds.drop i=d :: ds.drop (i+1):=by
   rw[Yy hlt]
   congr 1
   rw[K5 hlt] at e
   exact Option.some.inj e
  rw[ed] at q2
  have q3:=q2
  simp only[bj] at q3
  cases Ln:g (eR .base d) d Γ2 with
  | none=>simp only[Ln] at q3;exact False.elim q3
  | some Γ3=>
   simp only[Ln,cw,ay] at q3
   refine⟨jw φ2 H',φ2,Γ2,eR .base d,d,Γ3,r3.cut,VR.av r3.cut (VR.eR (lz _ _) (show VR K _ φ2 H' H' .base d x from Lm)),Ln,λB4 φ4 σ4 s4 r4=> ?_⟩
   have sB:Same B1 B4:=(s2.trans r3.zE).trans s4
   refine⟨B4,φ4,Γ3,r4,?_⟩
   match hbm:fb Γ3,q3 with
   | some (.ok (.nx Γ')),q3=>exact λB' φ' σ' mJ s' r'=>⟨B',φ',Γ',sB.trans s',r',q3⟩
   | some (.ok (.ct Γ')),q3=>exact λB' φ' σ' mJ s' r'=>⟨B',φ',Γ',sB.trans s',r',q3⟩
   | some (.ok (.bk Γ')),q3=>exact λB' φ' σ' mJ s' r'=>q3 B' φ' σ' mJ (sB.trans s') r'
   | some (.ok (.rt o d)),q3=>exact λv mJ s' rv=>q3 v mJ (sB.trans s') (rv.base sB)
   | some (.ex c),q3=>exact λmJ s'=>q3 mJ (sB.trans s')
   | none,q3=>exact False.elim q3
 ·have e:i=ds.length:=by omega
  subst e
  rw[List.drop_length] at q2
  exact .inl ⟨io.stop H2 (s2.trans r2.bs),q2 B2 φ2 σ2 H2 s2 r2⟩
def hide (as:List Addr)(H:Hp):Hp:=λb=>if b∈as then none else H b
theorem HA {as:List Addr}{H:Hp}{b:Addr}(h:b∈as):hide as H b=none:=J5 h
theorem j5 {as:List Addr}{H:Hp}{b:Addr}(h:b∉as):hide as H b=H b:=J6 h
theorem IJ (as:List Addr)(H:Hp):Same (hide as H) H:=λb o e=>by
 by_cases h:b∈as
 ·rw[HA h] at e;cases e
 ·rwa [j5 h] at e
theorem Rep.swap {B H H':Hp}{φ:Nat->List Addr}{Γ:bD}{σ:St}{iw:Nat}{a:Addr}{d:PyData}{as:List Addr}(r:Rep K B φ Γ σ H)(hv:σ[iw]? =some (some (.ref a)))(s:Same (hide (φ iw) H) H')(ht:IsT K H' d (.ref a) as)(hn:as.Nodup)(hb:∀x∈as,hide (φ iw) H x=none/\∃o,H' x=some o/\hZ o) :
  Rep K B (λj=>if j=iw then as else φ j) (Γ.set iw (some (true,d))) σ H':=by
 have sB:Same B (hide (φ iw) H):=λb o e=>by
  by_cases h:b∈φ iw
  ·rw[(r.nb iw b h).1] at e;cases e
  ·rw[j5 h];exact r.bs b o e
 have mu:∀b o,H b=some o->¬ hZ o->H' b=some o:=λb o e n=>s b o (by
  rw[j5]
  ·exact e
  ·intro h
   obtain⟨o',e',m⟩:=(r.nb iw b h).2
   rw[e] at e';cases e'
   exact n m)
 have ot:∀j,j≠iw->∀b∈φ j,∀o,H b=some o->H' b=some o:=λj hj b hb o e=>s b o (by
  rw[j5 (r.dj j iw hj b hb)];exact e)
 exact {
  bs:=sB.trans s
  len:=by rw[U7];exact r.len
  sl:=λj o d' e=>by
   by_cases hj:j=iw
   ·subst hj
    by_cases hlt:j < Γ.length
    ·rw[XU hlt] at e
     cases e
     exact⟨.ref a,hv,by rw[J5 rfl,J5 rfl];exact ht⟩
    ·rw[Xz (by rw[U7];omega)] at e;cases e
   ·rw[XY (Ne.symm hj)] at e
    obtain⟨v,h1,h2⟩:=r.sl j o d' e
    refine⟨v,h1,?_⟩
    cases o with
    | true=>
     rw[J5 rfl] at h2⊢
     rw[J6 hj]
     exact IsT.via mu _ _ _ (ot j hj) h2
    | false=>rwa [J6 K3] at h2⊢
  nd:=λj=>by
   show(if j=iw then as else φ j).Nodup
   split
   ·exact hn
   ·exact r.nd j
  nb:=λj x hx=>by
   replace hx:x∈(if j=iw then as else φ j):=hx
   split at hx
   ·exact⟨sB.free (hb x hx).1,(hb x hx).2⟩
   ·rename_i hj
    obtain⟨h1,o,h2,h3⟩:=r.nb j x hx
    exact⟨h1,o,ot j hj x hx o h2,h3⟩
  dj:=λi j hij x hx hx'=>by
   replace hx:x∈(if i=iw then as else φ i):=hx
   replace hx':x∈(if j=iw then as else φ j):=hx'
   have key:∀m,m≠iw->x∈φ m->x∈as->False:=λm hm h1 h2=>by
    obtain⟨_,o,e,_⟩:=r.nb m x h1
    have:=(hb x h2).1
    rw[j5 (r.dj m iw hm x h1),e] at this
    cases this
   split at hx
   ·split at hx'
    ·omega
    ·rename_i hj;exact key j hj hx' hx
   ·split at hx'
    ·rename_i hi _;exact key i hi hx hx'
    ·exact r.dj i j hij x hx hx'}
theorem Od {iw:Nat}{tg e1 e2 ew:Expr}{body:List Stmt}{f1 f2:EF}{g:GF}{fb:SF}{CX:G5}{k:Nat}{f:Addr}{fd:FuncData}{ps:List Str}{F:List PyData->PyData->M (PyData×PyData)}{x:Str}{E:XK}
  (hp:PassesOwn (model X.prog X.w) X.A X.env X.xe) (hc:X.calm=true) (G:cu X.prog X.w X.K X.mg X.base CX k f fd ps (Q_ K 2 F)) (hr:hX k X.A) (Xa:Gl X x) (hm:X.mg x=some (.ref f)) (hk:keepIn X.K (.ref f)=true) (hb:Binds X.K fd ps []) (hx:Passes CX X E)
  (h1:DE X K Ew e1 f1) (h2:DE X K Ew e2 f2) (hw:PE X ew (pd iw)) (hg:DG X K tg g) (hbd:Km X K Ew body fb) (hK:X.K=K:=by rfl) (hdb:(x==("__debug__":Str))=false:=by decide)
  (s1:starEach [e1,e2,ew] X.env=(false,eval e1 X.env) :: starEach [e2,ew] X.env:=by rfl) (s2:starEach [e2,ew] X.env=(false,eval e2 X.env) :: starEach [ew] X.env:=by rfl) (s3:starEach [ew] X.env=(false,eval ew X.env) :: starEach [] X.env:=by rfl)
  (hpl:(backTo pos (starEach [e2,ew] X.env)).any (·.1)=false:=by rfl) (hs:∀y,foldedSetIterable (.Call (.Name x p) [e1,e2,ew] [] pos) X.env y=pure y:=by intro _;rfl) :
  DS X K Ew (.For tg (.Call (.Name x p) [e1,e2,ew] [] pos) body [] pos') (Hy iw F f1 f2 g fb) :=
 (Fi hp hc (G4 (G6 G hr Xa hm hk hb .nil hx (b9 h1 (b9 h2 (b9 hw fz s3) s2) s1) hdb s1 hpl)) hg hbd hs).imp λD σ H q=>by
  subst hK
  obtain⟨B,φ,Γ,r,q⟩:=q
  unfold Hy at q
  match hgw:Γ[iw]?,q with
  | some (some (true,.dict kvs)),q=>
   obtain⟨v3,Pz,hT⟩:=r.own hgw
   obtain⟨a,ks,bs,rfl,hl,ht,hφ⟩:=fO hT
   refine⟨B,φ,Γ,r,?_⟩
   match hm1:f1 Γ,q with
   | none,q=>cases q
   | some (.ex c),q=>exact .inr ⟨c,rfl,q⟩
   | some (.ok (k1,d1)),q=>
    refine .inl ⟨k1,d1,rfl,λv1 H1 t1 hv1=>⟨B,φ,Γ,r.same t1,?_⟩⟩
    match hm2:f2 Γ,q with
    | none,q=>cases q
    | some (.ex c),q=>exact .inr ⟨c,rfl,q⟩
    | some (.ok (k2,d2)),q=>
     refine .inl ⟨k2,d2,rfl,λv2 H2 t2 hv2=>⟨.ref a,Pz,?_⟩⟩
     have q5:fB X.K Ew B (if pI k1=true/\pI k2=true then (match F [d1,d2] (.dict kvs) with
      | some (.ok (.list ds,.dict kvs'))=>bj g fb ds (Γ.set iw (some (true,.dict kvs')))
      | _=>none) else none) D:=q
     by_cases hbb:pI k1=true/\pI k2=true
     ·rw[J5 hbb] at q5
      obtain⟨b1,b2⟩:=hbb
      cases k1 <;> first | (cases b1;done) | skip
      cases k2 <;> first | (cases b2;done) | skip
      have r2:=(r.same t1).same t2
      have sB:Same B (hide (φ iw) H2):=λb o e=>by
       by_cases h:b∈φ iw
       ·rw[(r2.nb iw b h).1] at e;cases e
       ·rw[j5 h];exact r2.bs b o e
      have w1:aJ X.K (hide (φ iw) H2) d1 v1:=aJ.same sB _ _ (show aJ X.K B d1 v1 from hv1)
      have w2:aJ X.K (hide (φ iw) H2) d2 v2:=aJ.same sB _ _ (show aJ X.K B d2 v2 from hv2)
      refine⟨hide (φ iw) H2,[d1,d2],kvs,[v1,v2],a,φ iw,rfl,rfl,IJ _ _,bq w1 (bq w2 bM),IsT.same t2 _ _ _ (IsT.same t1 _ _ _ hT),r.nd iw,λy hy=>⟨HA hy,(r2.nb iw y hy).2⟩,?_⟩
      match hF:F [d1,d2] (.dict kvs),q5 with
      | some (.ok (.list ds,.dict kvs')),q5=>
       intro v H3 a1 a2 z1 z2 z3 z4 z5 z6 z7
       have r3:=r2.swap Pz z1 z3 z5 λy hy=>z7 y (.inr hy)
       have av:Av X.K B (λj=>if j=iw then a2 else φ j) H3 (.fr []) (.list ds) v:=⟨a1,z2,z4,λy hy=> .inr ⟨sB.free (z7 y (.inl hy)).1,λj hj=>by
        replace hj:y∈(if j=iw then a2 else φ j):=hj
        split at hj
        ·exact z6 y hy hj
        ·rename_i hji
         obtain⟨_,o,e,_⟩:=r2.nb j y hj
         have:=(z7 y (.inl hy)).1
         rw[j5 (r2.dj j iw hji y hj),e] at this
         cases this⟩⟩
       obtain⟨B1,ψ,Xb,r4,hD⟩:=r3.mS av
       obtain⟨al,vs,rfl,hq,hds⟩:=bg hD
       exact⟨al,rfl,⟨vs,r4.bs.seq hq⟩,II r4 (yA hq hds) (fB.base Xb q5)⟩
      | some (.ok (.list ds,.none)),q5=>exact False.elim q5
      | some (.ok (.list ds,.bool _)),q5=>exact False.elim q5
      | some (.ok (.list ds,.int _)),q5=>exact False.elim q5
      | some (.ok (.list ds,.str _)),q5=>exact False.elim q5
      | some (.ok (.list ds,.tuple _)),q5=>exact False.elim q5
      | some (.ok (.list ds,.list _)),q5=>exact False.elim q5
      | some (.ok (.none,_)),q5=>exact False.elim q5
      | some (.ok (.bool _,_)),q5=>exact False.elim q5
      | some (.ok (.int _,_)),q5=>exact False.elim q5
      | some (.ok (.str _,_)),q5=>exact False.elim q5
      | some (.ok (.tuple _,_)),q5=>exact False.elim q5
      | some (.ok (.dict _,_)),q5=>exact False.elim q5
      | some (.ex c),q5=>exact False.elim q5
      | none,q5=>exact False.elim q5
     ·rw[J6 hbb] at q5
      exact False.elim q5
  | some (some (true,.none)),q|some (some (true,.bool _)),q|some (some (true,.int _)),q|some (some (true,.str _)),q|some (some (true,.tuple _)),q|some (some (true,.list _)),q|some (some (false,_)),q|some none,q|none,q=>cases q
end
section
variable {prog:Program}{w:World}{A:Around}{E:Jx}{s:Shared}{I:Addr}{fp wr:List Addr}{G:Array GenState->Array GenState->Prop}{n:Nat}{P:Nat->Value->Prop}{St:Nat->Shared->Prop}
theorem Oe {R:Result->Shared->Prop}(W:WalksS prog w A.in1 I fp wr G n P St)(hT:∀i s,St i s->s.TypeIs (.ref I) "list_reverseiterator")(S:Addr)(st0:St 0 s)(nS:S∉fp)(hI:I∈fp)(hn:n<=sizeLine)(hS:s.heap.get? S=some {cls:=.type "list",data:=.seq #[]})
  (hR:∀s' acc' c',Moved (S :: wr) G s s'->s'.heap.get? S=some {cls:=.type "list",dict:=none,data:=.seq acc' c',slots:=#[]}->ItemsOf P acc' n->R (.ok (.ret .none)) s') :
  wpAny (model prog w) A.in1 (Builtin.«list.__init__» ⟨[.ref S,.ref I],[]⟩) (λfin s'=>match fin with | .done f=>R (.ok f) s' | .again c'=>c'.quiet=true/\codeAny (model prog w) A c' R s') (λe s'=>R (.error e) s') s:=by
 have nI:S≠I:=λe=>nS (e ▸ hI)
 show wpAny _ A.in1 (do let old←Builtin.List.listItems (.ref S);(Builtin.List.listUpdate (.ref S) (λ_=> #[]));(letGo old.toList.reverse);Builtin.List.listExtendWith (.ref S) (.ref I) .none) _ _ s
 refine J8 ?_;unfold Builtin.List.listItems;refine J8 (wpAny_seqItems hS rfl ((J7 ?_)))
 show wpAny _ A.in1 (updateSeq S (λ_=> #[]) >>=λ_=>(letGo (#[]:Array Value).toList.reverse >>=λ_=>Builtin.List.listExtendWith (.ref S) (.ref I) .none)) _ _ s;refine J8 (wpAny_updateSeq hS rfl ?_)
 have hS2:=(Xk (Obj.mapSeq (λ_=>(#[]:Array Value))) hS rfl)
 have keep:∀b o,b≠S->s.heap.get? b=some o->(s.heap.update S (Obj.mapSeq (λ_=>(#[]:Array Value)))).get? b=some o:=λb o hb e=>((Y2 _ _ (Ne.symm hb)).trans e)
 have st1:=W.frame 0 s (s.heap.update S (Obj.mapSeq (λ_=>(#[]:Array Value)))) s.toks st0 (Nat.le_of_eq (by simp[Heap.update])) (λb hb o e=>keep b o (λz=>nS (z ▸ hb)) e)
 have h1:Builtin.List.listSameRef (.ref S) (.ref I)=false:=by(simp[Builtin.List.listSameRef,nI])
 refine J8 (wpAny_letGo ?_);unfold Builtin.List.listExtendWith
 refine J8 (wpAny_typeOf (hT 0 _ st1) ?_);rw[J6 (by rw[h1];decide)];refine J8 (W.self 0 _ _ _ st1 ?_);refine J8 (J2 ?_);unfold Builtin.List.listLengthHint
 refine J8 (Jk (hT 0 _ st1) CD ?_)
 show wpAny _ A.in1 (specialOf (Value.ref I) (Str.ofString "__length_hint__") >>=_) _ _ _;refine J8 (Jk (hT 0 _ st1) Hm ?_)
 generalize hid:("list_reverseiterator.__length_hint__":String)=id0
 wp_delta
 rw[show splitId id0=some ("list_reverseiterator","__length_hint__") from by subst hid;decide+kernel]
 subst hid
 refine J8 (wpAny_isInstance (b:=true) (hT 0 _ st1) (by rw[isSubtype_type];kernel_rfl) ?_);refine J7 ?_;rw[J6 (by decide)]
 refine J7 ⟨plainId_quiet F.plain_extend_loop _,codeAny_extend_loopS W hn _ nS _ n 0 _ _ _ rfl (Xu _) st1 hS2 (ItemsOf.nil P) λs' acc' c' hm hS' hacc=> ?_⟩
 exact hR s' acc' c' (Moved.trans W.gtrans ((Moved.refl W.grefl).then_heap (Nat.le_of_eq (by simp[Heap.update])) λb o hb e=>keep b o (λz=>hb (z ▸ K8)) e) hm) hS' hacc
theorem CY {Q:Jx}(W:WalksS prog w A.in1.in1 I fp wr G n P St)(hT:∀i s,St i s->s.TypeIs (.ref I) "list_reverseiterator")(st0:St 0 s)(hfp:∀b∈fp,b < s.heap.objs.size)(hI:I∈fp)(hn:n<=sizeLine)
  (hQ:∀s' acc' c',Moved (s.heap.objs.size :: wr) G {s with heap:=s.heap.push {cls:=.type "list",data:=.seq #[]}} s'->s'.heap.get? s.heap.objs.size=some {cls:=.type "list",dict:=none,data:=.seq acc' c',slots:=#[]}->ItemsOf P acc' n->Q (.ref s.heap.objs.size) s') :
  wpAny (model prog w) A (call (.type "list") [.ref I]) Q E s:=by
 have nS:s.heap.objs.size∉fp:=λhm=>(XJ _ (hfp _ hm))
 refine callType_codes (Q₁:=λobj s₁=>obj= .ref s.heap.objs.size/\s₁={s with heap:=s.heap.push {cls:=.type "list",data:=.seq #[]}}) F.called_list (F.typeCall_list_1 _) F.entry_list_init (code_list_new _ ⟨rfl,rfl⟩) λobj s₁ h₁=> ?_
 obtain⟨rfl,rfl⟩:=h₁
 have hS:(s.heap.push {cls:=.type "list",data:=.seq #[]}).get? s.heap.objs.size=some {cls:=.type "list",data:=.seq #[]}:=(Kz _ rfl)
 refine⟨⟨_,hS,rfl⟩,F.args_list_init_2 _ _,Oe W hT _ (W.frame 0 s _ s.toks st0 (Ku _) λb _ o e=>K6 _ e) nS hI hn hS λs' acc' c' hm hS' hacc=>⟨rfl,hQ s' acc' c' hm hS' hacc⟩⟩
end
section
variable {X:Cx}{K:Frag}{Ew:Str->Hp->Prop}{pos pos2 p p2:Pos}{a:Expr}{ta:TE}{fa:EF}
def LM (K:Frag)(ta:TE):TE:=λσ H Q=>ta σ H λx H1=>∃q ys,x= .ref q/\iV K H1 q ys/\∀t,H1 t=none->Q (.ref t) (upd H1 t (.lst ys.reverse))
theorem FL (hc:X.calm=true)(hg:Gl X "list")(hm:X.mg "list" =none)(hg2:Gl X "reversed")(hm2:X.mg "reversed" =none)(ha:PE X a ta)
  (hs:starEach [a] X.env=(false,eval a X.env) :: starEach [] X.env:=by rfl) (hpl:(backTo pos2 (starEach [] X.env)).any (·.1)=false:=by rfl)
  (hs2:starEach [.Call (.Name "reversed" p2) [a] [] pos2] X.env=(false,eval (.Call (.Name "reversed" p2) [a] [] pos2) X.env) :: starEach [] X.env:=by rfl) (pF:(backTo pos (starEach [] X.env)).any (·.1)=false:=by rfl)
  (hnil:backTo pos (starEach [] X.env)=[]:=by rfl) :
  PE X (.Call (.Name "list" p) [.Call (.Name "reversed" p2) [a] [] pos2] [] pos) (LM X.K ta):=by
 intro pins s σ H Q I h
 refine wpAny_Call_Name_kw (gS I hg hm PyProof.Rows.boot_list ?_)
 refine PyProof.Rows.callWith_type1 ?_ hs2 pF
 rw[hs2]
 show wpAny _ _ (spliced ((false,eval (.Call (.Name "reversed" p2) [a] [] pos2) X.env) :: backTo pos (starEach [] X.env))) _ _ s
 refine Calls.spliced_cons ?_
 refine wpAny_Call_Name_kw (gS I hg2 hm2 PyProof.Rows.boot_reversed ?_)
 refine PyProof.Rows.callWith_type1 (eQ (b9 ha fz hs pos2 pins s σ H (λvs H1=>match vs with
  | [x]=>∃q ys,x= .ref q/\iV X.K H1 q ys/\∀t,H1 t=none->Q (.ref t) (upd H1 t (.lst ys.reverse))
  | _=>False) I h) λus s1 ⟨vs,H1,I1,r1,q1⟩=> ?_) hs hpl
 match vs,r1,q1 with
 | [x],r1,q1=>
  obtain⟨q,ys,rfl,hq,fin⟩:=q1
  obtain⟨u,rfl,ru⟩:=r1.one
  cases ru
  obtain⟨its,rv,pl,hz⟩:=I1.list hq
  refine call_reversed_list pl.isList ?_
  rw[hnil]
  refine Calls.spliced_nil ?_
  have hit:(s1.heap.push (revObj q ((its.toArray.size:Int) - 1))).IsRevIter s1.heap.objs.size q ((its.toArray.size:Int) - 1):=⟨_,Kz _ rfl,rfl,rfl⟩
  have Vg:(s1.heap.push (revObj q ((its.toArray.size:Int) - 1))).IsList q its.toArray:=pl.isList.at λo e=>K6 _ e
  have hq1:q < s1.heap.objs.size:=let ⟨o,_,e,_⟩:=pl;KU e
  have hne:q≠s1.heap.objs.size:=X1 hq1
  have hh:X.A.in1.in1.handled=none:=I1.ok.hd hc
  have hl:=rv.length
  refine CY (Walks.toS (Walks.listRev (prog:=X.prog) (w:=X.w) hh s1.heap.objs.size q hne its.toArray)) (λi s st=>st.2.1.typeIs) ⟨Xu _,by simpa using hit,Vg⟩ (λb hb=> ?_) (by simp) (by rw[Kw];omega) λs' acc c hm hS' hacc=> ?_
  ·have:b=s1.heap.objs.size∨b=q:=by simpa using hb
   show b < (s1.heap.push _).objs.size
   rw[Xw]
   rcases this with z | z
   ·rw[z];exact U2 _
   ·rw[z];exact Uy hq1
  ·rw[yE hacc] at hS'
   obtain⟨h',g',d',t',os'⟩:=s'
   obtain rfl:g'=s1.gens:=hm.gens
   obtain rfl:d'=s1.drawn:=hm.drawn
   obtain rfl:os'=s1.os:=hm.os
   have hsz:(s1.heap.push (revObj q ((its.toArray.size:Int) - 1))).objs.size=s1.heap.objs.size+1:=Xw ..
   refine⟨.ref _,_,I1.laid (h':=h') (t':=t') (a:=(s1.heap.push (revObj q ((its.toArray.size:Int) - 1))).objs.size) (o:=.lst ys.reverse) (λb u e=>hm.heap b u (λz=> ?_) (K6 _ (K6 _ e))) (by rw[hsz];exact Uu _) ⟨by rw[XZ];exact hz,its.reverse,c,rv.reverse,hS'⟩,rfl,fin _ (I1.hok.fresh (by rw[hsz];exact Uu _))⟩
   have hb:=KU e
   have:b=(s1.heap.push (revObj q ((its.toArray.size:Int) - 1))).objs.size∨b=s1.heap.objs.size:=by simpa using z
   rw[hsz] at this
   rcases this with z | z
   ·rw[z] at hb;exact absurd hb (Nat.not_lt.mpr (Uu _))
   ·rw[z] at hb;exact absurd hb (XJ _)
 | [],r1,q1=>exact False.elim q1
 | _ :: _ :: _,r1,q1=>exact False.elim q1
theorem FN (hc:X.calm=true)(hg:Gl X "list")(hm:X.mg "list" =none)(hg2:Gl X "reversed")(hm2:X.mg "reversed" =none)(ha:DE X K Ew a fa)(hK:X.K=K:=by rfl)
  (hs:starEach [a] X.env=(false,eval a X.env) :: starEach [] X.env:=by rfl) (hpl:(backTo pos2 (starEach [] X.env)).any (·.1)=false:=by rfl)
  (hs2:starEach [.Call (.Name "reversed" p2) [a] [] pos2] X.env=(false,eval (.Call (.Name "reversed" p2) [a] [] pos2) X.env) :: starEach [] X.env:=by rfl) (pF:(backTo pos (starEach [] X.env)).any (·.1)=false:=by rfl)
  (hnil:backTo pos (starEach [] X.env)=[]:=by rfl) :
  DE X K Ew (.Call (.Name "list" p) [.Call (.Name "reversed" p2) [a] [] pos2] [] pos) (sd CV fa):=(FL hc hg hm hg2 hm2 ha hs hpl hs2 pF hnil).imp λσ H Q q=>by
 obtain⟨B,φ,Γ,r0,q⟩:=q
 refine⟨B,φ,Γ,r0,(q.bind r0).mono λu H1 s1 ⟨k,x,e1,v1,r1,_,q1⟩=> ?_⟩
 obtain⟨z,e,q⟩:=gL (kf:=λ_=> .fr []) q1
 cases x <;> simp only[CV] at e <;> try (cases e;done)
 split at e
 ·rename_i xs hn
  cases e
  obtain⟨p,vs,rfl,h1,h2⟩:=bg (v1.toD r1.bs)
  rw[hK]
  refine⟨p,vs,rfl,h1,λt ht=>q _ _ (s1.trans (Same.upd ht)) (VR.fresh.mpr (aX.lst ?_ aB (aA.same (Same.upd ht) _ _ (lU h2)) (s1.free ht)))⟩
  exact a6.mpr λx hx=>a6.mp hn x (Uw.mp hx)
 ·cases e
theorem sr:∀{xs:List V} {us:List Value},xs.length=us.length->(∀(i:Nat) (x:V) (u:Value),xs[i]? =some x->us[i]? =some u->RelV x u)->Vals xs us
 | [],[],_,_=> .nil
 | [],_ :: _,h,_=>by simp at h
 | _ :: _,[],h,_=>by simp at h
 | x :: xs,u :: us,h,k=> .cons (k 0 x u rfl rfl) (sr (by simpa using h) λi y w e1 e2=>k (i+1) y w (by simpa using e1) (by simpa using e2))
theorem FO {n:Nat}{acc:Array Value}(h:ItemsOf (λi v=>∃t,v= .int (0+(i:Nat)*1) t) acc n):Vals ((List.range n).map λ(i:Nat)=>V.int (i:Int)) acc.toList:=by
 refine sr (by simp[h.1]) λi v u e1 e2=> ?_
 have hi:i < n:=by
  have:=(X5.mp e1).1
  simpa using this
 rw[Kj,U4 hi] at e1
 cases e1
 obtain⟨t,rfl⟩:=h.2 i u (by rw[←YJ];exact e2)
 exact⟨t,by simp⟩
def Ra (ta:TE):TE:=λσ H Q=>ta σ H λx H1=>∃n:Int,x= .int n/\0<=n/\n<=100000/\∀t,H1 t=none->Q (.ref t) (upd H1 t (.lst ((List.range n.toNat).map λ(i:Nat)=>V.int (i:Int))))
theorem LN (hc:X.calm=true)(hg:Gl X "list")(hm:X.mg "list" =none)(hg2:Gl X "range")(hm2:X.mg "range" =none)(ha:PE X a ta)
  (hs:starEach [a] X.env=(false,eval a X.env) :: starEach [] X.env:=by rfl) (hpl:(backTo pos2 (starEach [] X.env)).any (·.1)=false:=by rfl)
  (hs2:starEach [.Call (.Name "range" p2) [a] [] pos2] X.env=(false,eval (.Call (.Name "range" p2) [a] [] pos2) X.env) :: starEach [] X.env:=by rfl) (pF:(backTo pos (starEach [] X.env)).any (·.1)=false:=by rfl)
  (hnil:backTo pos (starEach [] X.env)=[]:=by rfl) :
  PE X (.Call (.Name "list" p) [.Call (.Name "range" p2) [a] [] pos2] [] pos) (Ra ta):=by
 intro pins s σ H Q I h
 refine wpAny_Call_Name_kw (gS I hg hm PyProof.Rows.boot_list ?_)
 refine PyProof.Rows.callWith_type1 ?_ hs2 pF
 rw[hs2]
 show wpAny _ _ (spliced ((false,eval (.Call (.Name "range" p2) [a] [] pos2) X.env) :: backTo pos (starEach [] X.env))) _ _ s
 refine Calls.spliced_cons ?_
 refine wpAny_Call_Name_kw (gS I hg2 hm2 boot_range ?_)
 refine PyProof.Rows.callWith_type1 (eQ (b9 ha fz hs pos2 pins s σ H (λvs H1=>match vs with
  | [x]=>∃n:Int,x= .int n/\0<=n/\n<=100000/\∀t,H1 t=none->Q (.ref t) (upd H1 t (.lst ((List.range n.toNat).map λ(i:Nat)=>V.int (i:Int))))
  | _=>False) I h) λus s1 ⟨vs,H1,I1,r1,q1⟩=> ?_) hs hpl
 match vs,r1,q1 with
 | [x],r1,q1=>
  obtain⟨n,rfl,n0,n1,fin⟩:=q1
  obtain⟨u,rfl,ru⟩:=r1.one
  obtain⟨t,rfl⟩:=ru
  refine call_range_1 ?_
  rw[hnil]
  refine Calls.spliced_nil ?_
  have hh:X.A.handled=none:=I1.ok.hd hc
  have hsz:(s1.heap.push {cls:=.type "range",data:=.fields #[.int 0 s1.toks,.int n t,.int 1 (s1.toks+1)]}).objs.size=s1.heap.objs.size+1:=Xw ..
  refine call_list_range (n:=n.toNat) (by first | exact hh | simpa using hh) (IsRange.new ..) (small_one (by omega) (by omega) (by omega) (by omega)) (by rw[rangeSize_one];split <;> omega) (Kq (show n.toNat<=100000 by omega) (by decide)) λh' tk acc c hk hS' hacc=> ?_
  have hv:=FO hacc
  refine⟨.ref _,_,I1.laid (h':=h') (t':=tk) (a:=(s1.heap.push {cls:=.type "range",data:=.fields #[.int 0 s1.toks,.int n t,.int 1 (s1.toks+1)]}).objs.size) (o:=.lst ((List.range n.toNat).map λ(i:Nat)=>V.int (i:Int))) (λb u e=>hk b u (K6 _ e)) (by rw[hsz];exact Uu _) ⟨?_,acc.toList,c,hv,by simpa using hS'⟩,rfl,fin _ (I1.hok.fresh (by rw[hsz];exact Uu _))⟩
  rw[K4,X9]
  exact Kq (show n.toNat<=100000 by omega) (by decide)
 | [],r1,q1=>exact False.elim q1
 | _ :: _ :: _,r1,q1=>exact False.elim q1
theorem LO (hc:X.calm=true)(hg:Gl X "list")(hm:X.mg "list" =none)(hg2:Gl X "range")(hm2:X.mg "range" =none)(ha:DE X K Ew a fa)(hK:X.K=K:=by rfl)
  (hs:starEach [a] X.env=(false,eval a X.env) :: starEach [] X.env:=by rfl) (hpl:(backTo pos2 (starEach [] X.env)).any (·.1)=false:=by rfl)
  (hs2:starEach [.Call (.Name "range" p2) [a] [] pos2] X.env=(false,eval (.Call (.Name "range" p2) [a] [] pos2) X.env) :: starEach [] X.env:=by rfl) (pF:(backTo pos (starEach [] X.env)).any (·.1)=false:=by rfl)
  (hnil:backTo pos (starEach [] X.env)=[]:=by rfl) :
  DE X K Ew (.Call (.Name "list" p) [.Call (.Name "range" p2) [a] [] pos2] [] pos) (sd vf fa):=(LN hc hg hm hg2 hm2 ha hs hpl hs2 pF hnil).imp λσ H Q q=>by
 obtain⟨B,φ,Γ,r0,q⟩:=q
 refine⟨B,φ,Γ,r0,(q.bind r0).mono λu H1 s1 ⟨k,x,e1,v1,r1,_,q1⟩=> ?_⟩
 obtain⟨z,e,q⟩:=gL (kf:=λ_=> .fr []) q1
 cases x <;> simp only[vf] at e <;> try (cases e;done)
 split at e
 ·rename_i n hn
  cases e
  have:=aF (v1.toD r1.bs)
  subst this
  refine⟨n,rfl,hn.1,hn.2,λt ht=>q _ _ (s1.trans (Same.upd ht)) (VR.fresh.mpr (aX.lst ?_ aB ?_ (s1.free ht)))⟩
  ·exact aP _ (λ_=>rfl) _
  ·have:=q9 (K:=K) (H:=upd H1 t (.lst ((List.range n.toNat).map λ(i:Nat)=>V.int (i:Int)))) ((List.range n.toNat).map λ(i:Nat)=>(i:Int))
   rw[X7,X7] at this
   exact this
 ·cases e
end
theorem IK (i:Int)(l:List Int)(x:Int):zZ (i :: (l++[x]))=if x < zZ (i :: l) then x else zZ (i :: l):=by
 show(l++[x]).foldl (λa b=>if b < a then b else a) i=_
 rw[List.foldl_append];rfl
theorem CZ (i:Int)(l:List Int):∀k,k<=l.length->(i :: l).getD (argBest (λa b=>decide ((i :: l).getD a 0 < (i :: l).getD b 0)) k) 0=zZ (i :: l.take k)
 | 0,_=>rfl
 | k+1,h=>by
  have ih:=CZ i l k (by omega)
  have hk:k < l.length:=by omega
  have e1:(i :: l).getD (k+1) 0=l[k]:=by simp[KW,hk]
  rw[List.take_succ_eq_append_getElem hk,IK,←ih]
  show(i :: l).getD (if decide ((i :: l).getD (k+1) 0 < (i :: l).getD (argBest _ k) 0)=true then k+1 else argBest _ k) 0=_
  rw[e1]
  by_cases c:l[k] < (i :: l).getD (argBest (λa b=>decide ((i :: l).getD a 0 < (i :: l).getD b 0)) k) 0
  ·rw[J5 (J4 c),J5 c];exact e1
  ·rw[J6 (by simpa using c),J6 c]
theorem LP (i:Int)(l:List Int):(i :: l).getD (argBest (λa b=>decide ((i :: l).getD a 0 < (i :: l).getD b 0)) l.length) 0=zZ (i :: l):=by
 rw[CZ i l l.length (Ku _),UW]
section
variable {X:Cx}
theorem IL (hc:X.calm=true):kz X (.builtin "min") (λus H Q=>∃q i l,us=[.ref q]/\iV X.K H q ((i :: l).map V.int)/\Q (.int (zZ (i :: l))) H):=by
 intro pins s σ H xs us Q I rv h
 obtain⟨p,i,l,rfl,hq,q⟩:=h
 obtain⟨u,rfl,ru⟩:=rv.one
 cases(show u=Value.ref p from ru)
 obtain⟨its,r,pl,hz⟩:=I.list hq
 have hlen:its.length=l.length+1:=by
  have:=r.length
  simpa using this.symm
 refine call_min_walk (wpAny_pyIter_list pl.isList ?_)
 have hne:p≠s.heap.objs.size:=by
  obtain⟨o,e,_⟩:=pl.isList
  exact X1 (KU e)
 have W:=Walks.list (prog:=X.prog) (w:=X.w) (A:=X.A.in1) (I.ok.hd hc) s.heap.objs.size p hne its.toArray
 have hat:∀(a:Nat) (v:Value),its.toArray[a]? =some v->∃t,v= .int ((i :: l).getD a 0) t:=λa v hv=>by
  have hv:its[a]? =some v:=by simpa using hv
  have ha:a < (i :: l).length:=by
   have:=(X5.mp hv).1
   simp;omega
  have e:((i :: l).map V.int)[a]? =some (.int ((i :: l).getD a 0)):=by
   rw[Kj,KW,K5 ha];rfl
  obtain⟨u,hu,ru⟩:=r.get e
  rw[hv] at hu
  cases hu
  exact ru
 refine⟨s.heap.objs.size,_,_,its.toArray.size,_,_,λa b=>decide ((i :: l).getD a 0 < (i :: l).getD b 0),rfl,W,⟨⟨_,Kz _ rfl,rfl,rfl⟩,Heap.IsList.push pl.isList _⟩,λb hb=> ?_,by rw[Kw];omega,CmpOf.ints_lt (λa=>(i :: l).getD a 0) hat,λv h' tk hv hk=> ?_⟩
 ·simp only[K2,List.mem_nil_iff,or_false] at hb
  rw[Xw]
  rcases hb with rfl | rfl
  ·exact U2 _
  ·obtain⟨o,e,_⟩:=pl.isList
   exact Uy (KU e)
 ·have hI:Inv X pins σ H {s with heap:=h',toks:=tk}:=I.kept (t':=tk) λb o e=>hk b o (by
   intro z
   rw[K7.mp z] at e
   exact absurd (KU e) (XJ _)) (K6 _ e)
  obtain⟨t,rfl⟩:=hat _ v hv
  refine⟨.int _,H,hI,⟨t,rfl⟩,?_⟩
  rw[show its.toArray.size - 1=l.length by rw[Kw];omega,LP]
  exact q
theorem vg:∀{xs:List PyData} {l:List Int},xs.mapM intOf=some l->xs=l.map PyData.int
 | [],l,h=>by cases h;rfl
 | x :: xs,l,h=>by
  rw[List.mapM_cons] at h
  cases e:intOf x with
  | none=>rw[e] at h;cases h
  | some i=>
   rw[e] at h
   cases e2:xs.mapM intOf with
   | none=>rw[e2] at h;cases h
   | some l'=>
    rw[e2] at h
    have h':i :: l'=l:=Option.some.inj h
    subst h'
    rw[KZ,←vg e2]
    cases x <;> simp only[intOf] at e <;> first | (cases e;rfl) | (cases e;done)
theorem FP (hc:X.calm=true):CallD X (.builtin "min") yQ:=⟨_,IL hc,λxs z us H Q e h q=>by
 match xs,e,h with
 | [.list ds],e,h=>
  simp only[yQ] at e
  cases e2:ds.mapM intOf with
  | none=>rw[e2] at e;cases e
  | some l=>
   rw[e2,Option.bind_some] at e
   cases l with
   | nil=>cases e
   | cons i l=>
    cases e
    have hd:=vg e2
    subst hd
    obtain⟨u,rfl,hu⟩:=ii h
    obtain⟨a,vs,rfl,h1,h2⟩:=bg hu
    rw[p7 h2] at h1
    exact⟨a,i,l,rfl,h1,q _ H (Same.refl H) (aX.oC rfl cx)⟩⟩
end
section
variable {prog:Program}{w:World}{A:Around}{E:Jx}{s:Shared}{d it:Addr}
theorem FQ (d:Addr)(hd:(d==sysModules)=false):Meets (Builtin.«dict.items» ⟨[.ref d],[]⟩) (λ_ R s=>s.TypeIs (.ref d) "dict" /\R (.ok (.ret (.ref s.heap.objs.size))) {s with heap:=s.heap.push {cls:=.type "dict_items",data:=.fields #[.ref d]}}) :=
 .of_wp λprog w A R s ⟨hT,h⟩=>by
  unfold Builtin.«dict.items»;refine J8 ?_;unfold Builtin.Dict.noArgs;refine J8 (wpAny_notOrdered_dict hT ?_)
  show wpAny _ _ (pure d) _ _ s;refine J7 ?_;show wpAny _ _ (Builtin.Dict.showsAll d >>=_) _ _ s;unfold Builtin.Dict.showsAll
  rw[J6 (by rw[hd];decide)];refine J8 (J7 ?_)
  refine J8 (J0 ?_);exact(J7 ⟨_,rfl,h⟩)
theorem IM {Q:Jx}(hd:(d==sysModules)=false)(hT:s.TypeIs (.ref d) "dict")(q:Q (.ref s.heap.objs.size) {s with heap:=s.heap.push {cls:=.type "dict_items",data:=.fields #[.ref d]}}):wpAny (model prog w) A (call (.builtin "dict.items") [.ref d]) Q E s :=
 call_meets F.slot_dict_items hT F.entry_dict_items (F.args_dict_items_1 _) (FQ d hd) ⟨hT,q⟩
theorem IN {v:Addr}{o:Obj}{es:Array DictEntry}{ep:Nat}{Q:Jx}(hv:s.heap.IsItemsView v d)(ho:s.heap.get? d=some o)(hx:o.data= .dict es ep)
  (q:Q (.ref s.heap.objs.size) {s with heap:=s.heap.push {cls:=.type "dict_itemiterator",data:=.fields #[.none,.bool false,.ref d,.int 0 0,.int es.size 0,.int ep 0,.none,.none]}}):wpAny (model prog w) A (pyIter (.ref v)) Q E s:=by
 obtain⟨ov,hov,hcv,hdv⟩:=id hv
 refine wpAny_pyIter_slot hv.typeIs F.slot_dict_items_iter (J1 F.slot_dict_items_iter hv.typeIs F.entry_dict_items_iter ?_ (F.args_dict_items_iter_1 _));unfold Builtin.«dict_items.__iter__»
 refine J8 (J7 ?_);refine J8 ?_;unfold Builtin.Dict_items.dictOf;refine J8 (wpAny_field hov hdv (x:=.ref d) rfl ((J7 ?_)))
 refine J8 ?_;unfold Builtin.Dict_items.newIterator;refine J8 (wpAny_dictEntries ho hx ?_);refine J8 (wpAny_dictEpoch ho hx ?_)
 simp only[show Builtin.Dict_items.ownsTuple "dict_itemiterator" =true by decide,if_true]
 refine J0 (J7 ⟨_,rfl,"dict_itemiterator",_,⟨_,Kz _ rfl,rfl⟩,F.slot_dict_itemiterator_next.lookup,?_⟩) (by simp only[sizeOk,Builtin.Dict_items.ownedTupleFields,Kw,Kx,Kv,Uj,sizeLine_eq];omega)
 simpa [rawInt,Builtin.Dict_items.ownedTupleFields] using q
theorem IP {o:Obj}{es:Array DictEntry}{i ep:Nat}{e:DictEntry}{ok ov:Value}{Q:Option Value->Shared->Prop}(hit:IsItemIter s.heap it d i es.size ep ok ov)(ho:s.heap.get? d=some o)(hx:o.data= .dict es ep)(he:es[i]? =some e)
  (q:∀h',IsItemIterOut h' it d (i+1) es.size ep e.key e.val s.heap.objs.size->h'.get? s.heap.objs.size=some {cls:=.type "tuple",data:=.seq #[e.key,e.val]}->h'.objs.size=s.heap.objs.size+1->(∀b u,b≠it->s.heap.get? b=some u->h'.get? b=some u)->Q (some (.ref s.heap.objs.size)) {s with heap:=h'}) :
  wpAny (model prog w) A (pyNext (.ref it)) Q E s:=by
 obtain⟨hp,g,dr,tk,os⟩:=s
 have hT:Shared.TypeIs ⟨hp,g,dr,tk,os⟩ (.ref it) "dict_itemiterator":=(⟨_,hit,rfl⟩)
 obtain⟨hlt,hes⟩:=Array.getElem?_eq_some_iff.mp he
 unfold pyNext;refine J8 (wpAny_attempt (wpAny_callSpecial?_slot (name:=Str.ofString "__next__") hT F.slot_dict_itemiterator_next (J1 F.slot_dict_itemiterator_next hT F.entry_dict_itemiterator_next ?_ (F.args_dict_itemiterator_next_1 _))))
 refine J8 (J7 ?_);refine J8 ?_;refine J8 ?_
 first | (refine J8 (wpAny_typeNameOfWhole_itemiter hT (J7 ?_))) | (refine J8 (wpAny_typeNameOf_itemiter hT (J7 ?_)))
 refine J8 (wpAny_fieldsOf hit rfl ?_);simp only[show Builtin.Dict_items.ownsTuple "dict_itemiterator" =true by decide,if_true]
 show wpAny _ _ (if (Value.ref d==Value.none)=true then _ else _) _ _ _;rw[J6 (show ¬ ((Value.ref d==Value.none)=true) by(exact K3))]
 refine J8 (J7 ?_);refine J8 (wpAny_dictEntries ho hx ?_);rw[J6 (by simp)];refine J8 (J7 ?_);refine J8 (wpAny_dictEpoch ho hx ?_);rw[J6 (by simp)];refine J7 ?_
 simp only[show ¬ ((i:Int) < 0) by omega,if_false,K0,he]
 refine J8 ?_
 first | (refine J8 (wpAny_typeNameOfWhole_itemiter hT (J7 ?_))) | (refine J8 (wpAny_typeNameOf_itemiter hT (J7 ?_)))
 refine J8 (wpAny_isOneOf_itemiter hT ?_);show wpAny _ _ (setField (.ref it) 3 (rawInt ((i:Int)+1)) >>=_) _ _ ⟨hp,g,dr,tk,os⟩
 refine J8 (wpAny_setField_rec hit (by simp) λh1 e1 s1=> ?_)
 replace s1:Heap.SameBut it hp h1:=s1
 replace e1:IsItemIter h1 it d (i+1) es.size ep ok ov:=by
  unfold IsItemIter;rw[show((i+1:Nat):Int)=(i:Int)+1 by omega];simpa [rawInt] using e1
 have hT1:Shared.TypeIs ⟨h1,g,dr,tk,os⟩ (.ref it) "dict_itemiterator":=(⟨_,e1,rfl⟩)
 refine J8 (J2 ?_);refine J8 (wpAny_isOneOf_itemiter hT1 ?_);refine J8 (wpAny_isOneOf_itemiter hT1 ?_)
 show wpAny _ _ (Builtin.Dict_items.pairFromOwner (.ref it) 6 e.key e.val) _ _ ⟨h1,g,dr,tk,os⟩;unfold Builtin.Dict_items.pairFromOwner
 refine J8 (wpAny_newTuple ?_)
 have e2:IsItemIter (h1.push {cls:=.type "tuple",data:=.seq #[e.key,e.val]}) it d (i+1) es.size ep ok ov:=(K6 _ e1)
 generalize hh:h1.push {cls:=.type "tuple",data:=.seq #[e.key,e.val]}=h2 at e2
 have z1:h1.objs.size=hp.objs.size:=s1.1
 have hil:hp.objs.size≠it:=UU (KU hit)
 have t2:h2.get? hp.objs.size=some {cls:=.type "tuple",data:=.seq #[e.key,e.val]}:=by(rw[←hh,←z1];exact Kz _ rfl)
 have z2:h2.objs.size=hp.objs.size+1:=by(rw[←hh,Xw,z1])
 have k2:∀b u,b≠it->hp.get? b=some u->h2.get? b=some u:=λb u hb x=>by(rw[←hh];exact K6 _ (s1.extBut b u hb x))
 show wpAny _ _ (Builtin.Dict_items.ownedTupleIsFree (.ref it) >>=_) _ _ ⟨h2,g,dr,tk,os⟩;rw[z1];clear hh e1 s1 hT1 z1 h1
 refine J8 ?_;unfold Builtin.Dict_items.ownedTupleIsFree;refine J8 (wpAny_field e2 rfl (x:=.none) rfl ((J7 ?_)));simp only[if_true]
 refine J8 (wpAny_field e2 rfl (x:=ok) rfl ?_);refine J8 (wpAny_field e2 rfl (x:=ov) rfl ?_)
 refine J8 (wpAny_setField_rec e2 (by simp) λh3 e3 s3=> ?_)
 replace s3:Heap.SameBut it h2 h3:=s3;replace e3:IsItemIter h3 it d (i+1) es.size ep e.key ov:=e3
 refine J8 (wpAny_setField_rec e3 (by simp) λh4 e4 s4=> ?_)
 replace s4:Heap.SameBut it h3 h4:=s4;replace e4:IsItemIter h4 it d (i+1) es.size ep e.key e.val:=e4
 refine J8 (wpAny_setField_rec e4 (by simp) λh5 e5 s5=> ?_)
 replace s5:Heap.SameBut it h4 h5:=s5;replace e5:IsItemIterOut h5 it d (i+1) es.size ep e.key e.val hp.objs.size:=e5
 refine J8 (wpAny_setField_rec e5 (by simp) λh6 e6 s6=> ?_)
 replace s6:Heap.SameBut it h5 h6:=s6;replace e6:IsItemIterOut h6 it d (i+1) es.size ep e.key e.val hp.objs.size:=e6
 have kk:∀b u,b≠it->h2.get? b=some u->h6.get? b=some u:=λb u hb x=>s6.extBut b u hb (s5.extBut b u hb (s4.extBut b u hb (s3.extBut b u hb x)))
 exact J8 (wpAny_letGo (J7 (J7 ⟨_,rfl,(J7 (q h6 e6 (kk _ _ hil t2) (by show h6.objs.size=hp.objs.size+1;rw[s6.1,s5.1,s4.1,s3.1,z2]) λb u hb x=>kk b u hb (k2 b u hb x)))⟩)))
theorem LQ {o:Obj}{es:Array DictEntry}{ep:Nat}{ok ov:Value}{Q:Option Value->Shared->Prop}(hh:A.handled=none)(hit:IsItemIter s.heap it d es.size es.size ep ok ov)(ho:s.heap.get? d=some o)(hx:o.data= .dict es ep)
  (q:∀h',Heap.ExtBut it s.heap h'->Q none {s with heap:=h'}):wpAny (model prog w) A (pyNext (.ref it)) Q E s:=by
 have hT:s.TypeIs (.ref it) "dict_itemiterator":=(⟨_,hit,rfl⟩)
 unfold pyNext;refine J8 (wpAny_attempt (wpAny_callSpecial?_slot (name:=Str.ofString "__next__") hT F.slot_dict_itemiterator_next (J1 F.slot_dict_itemiterator_next hT F.entry_dict_itemiterator_next ?_ (F.args_dict_itemiterator_next_1 _))))
 refine J8 (J7 ?_);refine J8 ?_;refine J8 ?_
 first | (refine J8 (wpAny_typeNameOfWhole_itemiter hT (J7 ?_))) | (refine J8 (wpAny_typeNameOf_itemiter hT (J7 ?_)))
 refine J8 (wpAny_fieldsOf hit rfl ?_);simp only[show Builtin.Dict_items.ownsTuple "dict_itemiterator" =true by decide,if_true]
 show wpAny _ _ (if (Value.ref d==Value.none)=true then _ else _) _ _ s;rw[J6 (show ¬ ((Value.ref d==Value.none)=true) by(exact K3))]
 refine J8 (J7 ?_);refine J8 (wpAny_dictEntries ho hx ?_);rw[J6 (by simp)];refine J8 (J7 ?_);refine J8 (wpAny_dictEpoch ho hx ?_);rw[J6 (by simp)];refine J7 ?_
 simp only[show ¬ ((es.size:Int) < 0) by omega,if_false,K0,Array.getElem?_eq_none (Ku _)]
 refine J8 ?_
 first | (refine J8 (wpAny_typeNameOfWhole_itemiter hT (J7 ?_))) | (refine J8 (wpAny_typeNameOf_itemiter hT (J7 ?_)))
 show wpAny _ _ (setField (.ref it) 2 .none >>=_) _ _ s;refine J8 (wpAny_setField hit rfl (by simp) ?_)
 show wpAny _ _ (newExc (.type "StopIteration") [] >>=_) _ _ _;refine J8 ?_;simp only[newExc,newTuple];refine J8 (J0 ?_ (by size_fits))
 refine J8 (m:=firstArgMember _ _) (wpAny_of_eq (a:=Value.none) (by first | rfl | ((simp only[firstArgMember]);rfl)) ?_);refine J0 ?_ (by size_fits);simp only[raiseNew];refine J8 (wpAny_handled ?_)
 rw[show A.in1.handled=none from hh];refine J8 (J7 (wpAny_throw ?_));refine J8 (wpAny_isInstance (T:="StopIteration") (b:=true) ⟨_,Kz _ rfl,rfl⟩ isSubtype_stop ?_)
 exact J7 (q _ (((Heap.SameBut.update ..).extBut.push _).push _))
end
end L2
namespace L2
open PySem PyProof.Rows
section
variable {prog:Program}{w:World}{A:Around}{E:Jx}{s:Shared}
theorem Of {it t:Addr}{i:Nat}{items:Array Value}{x:Value}{Q:Jx}(hit:IsTupIter s.heap it t i)(ht:IsTup s.heap t items)(hx:items[i]? =some x)
  (hQ:∀h',IsTupIter h' it t (i+1)->Heap.SameBut it s.heap h'->Q x {s with heap:=h'}):wpAny (model prog w) A (Builtin.SmallTypes.nextOf (.ref it)) Q E s:=by
 obtain⟨o,ho,hc,hd⟩:=id hit
 obtain⟨ol,hol,_,nl,hdl⟩:=ht
 unfold Builtin.SmallTypes.nextOf
 refine J8 (wpAny_callSpecial?_slot (name:=Str.ofString "__next__") hit.typeIs slot_tupleiter_next (J1 slot_tupleiter_next hit.typeIs entry_tupleiter_next ?_ (args_tupleiter_next _)))
 show wpAny (model prog w) _ (field (.ref it) 0 >>=_) _ _ s;refine J8 (wpAny_field ho hd (x:=.ref t) rfl ?_)
 show wpAny (model prog w) _ (if (Value.ref t==Value.none)=true then _ else _) _ _ s;rw[J6 (λz:(Value.ref t==Value.none)=true=>K3 z)]
 show wpAny (model prog w) _ (field (.ref it) 1 >>=_) _ _ s;refine J8 (wpAny_field ho hd (x:=.int i 0) rfl ?_)
 show wpAny (model prog w) _ (seqItems? (.ref t) >>=_) _ _ s;refine J8 (wpAny_seqItems hol hdl ?_)
 simp only[K0,hx];refine J8 (wpAny_setField ho hd (by simp) (J7 ⟨x,rfl,J7 (hQ _ ?_ (Heap.SameBut.update ..))⟩))
 exact⟨_,Xk _ ho (Obj.isFreed_of_fields (Obj.data_mapFields hd _)),(Obj.cls_mapFields ..).trans hc,by(rw[Obj.data_mapFields hd]);simp[rawInt]⟩
theorem Og {it t:Addr}{i:Nat}{items:Array Value}{Q:Jx}(hh:A.handled=none)(hit:IsTupIter s.heap it t i)(ht:IsTup s.heap t items)(hx:items[i]? =none)
  (hE:∀h' e,Heap.ExtBut it s.heap h'->(∃o,h'.get? e=some o/\o.cls= .type "StopIteration")->E (.ref e) {s with heap:=h'}):wpAny (model prog w) A (Builtin.SmallTypes.nextOf (.ref it)) Q E s:=by
 obtain⟨o,ho,hc,hd⟩:=id hit
 obtain⟨ol,hol,_,nl,hdl⟩:=ht
 unfold Builtin.SmallTypes.nextOf
 refine J8 (wpAny_callSpecial?_slot (name:=Str.ofString "__next__") hit.typeIs slot_tupleiter_next (J1 slot_tupleiter_next hit.typeIs entry_tupleiter_next ?_ (args_tupleiter_next _)))
 show wpAny (model prog w) _ (field (.ref it) 0 >>=_) _ _ s;refine J8 (wpAny_field ho hd (x:=.ref t) rfl ?_)
 show wpAny (model prog w) _ (if (Value.ref t==Value.none)=true then _ else _) _ _ s;rw[J6 (λz:(Value.ref t==Value.none)=true=>K3 z)]
 show wpAny (model prog w) _ (field (.ref it) 1 >>=_) _ _ s;refine J8 (wpAny_field ho hd (x:=.int i 0) rfl ?_)
 show wpAny (model prog w) _ (seqItems? (.ref t) >>=_) _ _ s;refine J8 (wpAny_seqItems hol hdl ?_)
 simp only[K0,hx];refine J8 (wpAny_rule (J8 (wpAny_setField ho hd (by simp) ?_)))
 show wpAny (model prog w) _ (newExc (.type "StopIteration") [] >>=_) _ _ _
 refine J8 ?_;simp only[newExc,newTuple];refine J8 (J0 ?_ (by size_fits));refine J8 (m:=firstArgMember _ _) (wpAny_of_eq (a:=Value.none) (by first | rfl | (simp only[firstArgMember];rfl)) ?_);refine J0 ?_ (by size_fits)
 simp only[raiseNew];refine J8 (wpAny_handled ?_);(first | rw[show A.in1.handled=none from hh] | rw[hh])
 refine J8 (J7 (wpAny_throw ?_));exact hE _ _ (((Heap.SameBut.update ..).extBut.push _).push _) ⟨_,Kz _ rfl,rfl⟩
end
theorem yT {prog:Program}{w:World}{A:Around}(hh:A.handled=none)(it l:Addr)(hne:l≠it)(items:Array Value):Draws prog w A it [it,l] items.size (λi v=>items[i]? =some v) (λi h=>IsTupIter h it l i/\IsTup h l items) where
 live:=λ_ _ st=>let ⟨o,ho,_⟩:=st.1;⟨o,ho⟩
 frame:=λ_ _ _ st hk=>⟨let ⟨o,ho,r⟩:=st.1;⟨o,hk it (by simp) o ho,r⟩,let ⟨o,ho,r⟩:=st.2;⟨o,hk l (by simp) o ho,r⟩⟩
 item:=λi s Q E hi st hQ=>by
  refine Of st.1 st.2 (x:=items[i]) (by simp[hi]) λh' hit' hs'=>hQ _ h' s.toks (by simp[hi]) ⟨hit',st.2.extBut hs'.extBut hne⟩ hs'
 done:=λs Q E st hE=>Og hh st.1 st.2 (by simp) hE
open AutoSeq1 (wpAny_loadPart') in
theorem Oh (l:Addr)(items:Array Value)(n:Nat)(dct:Option Addr)(sl:Array (Option Value)) :
  Meets (Builtin.«enumerate.__new__» ⟨[.type "enumerate",.ref l],[]⟩) (λ_ R s=>s.heap.get? l=some {cls:=.type "tuple",dict:=dct,data:=.seq items n,slots:=sl}/\
   R (.ok (.ret (.ref (s.heap.push {cls:=.type "tuple_iterator",data:=.fields #[.ref l,.int 0 0]}).objs.size)))
    {s with heap:=(s.heap.push {cls:=.type "tuple_iterator",data:=.fields #[.ref l,.int 0 0]}).push {cls:=.type "enumerate",data:=.fields #[.none,.bool false,.ref s.heap.objs.size,rawInt 0,.none,.none]}}) :=
 .of_wp λprog w A R s h=>by
  obtain⟨hp,g,d,tk,os⟩:=s;obtain⟨hl,h⟩:=h;have hsub:=sub_enumerate
  have hL:IsTup (Shared.heap ⟨hp,g,d,tk,os⟩) l items:=⟨_,hl,rfl,n,rfl⟩
  wp_walk using wpAny_loadPart' hl
  refine wpAny_stack_any λst=>J7 ?_
  split
  ·rename_i c _ _ _ _ _
   cases(c==Value.type "enumerate") <;> (wp_walk using wpAny_loadPart' hl,iter_tuple hL;exact⟨_,rfl,h⟩)
  ·(wp_walk using wpAny_loadPart' hl,iter_tuple hL;exact⟨_,rfl,h⟩)
section
variable {prog:Program}{w:World}{A:Around}{E:Jx}{s:Shared}
theorem IQ {l:Addr}{items:Array Value}{Q:Jx}(hL:IsTup s.heap l items)
  (h:∀h',IsEnum h' (s.heap.objs.size+1) s.heap.objs.size 0 .none->IsTupIter h' s.heap.objs.size l 0->(∀b o,s.heap.get? b=some o->h'.get? b=some o)->Q (.ref (s.heap.objs.size+1)) {s with heap:=h'}) :
  wpAny (model prog w) A (call (.type "enumerate") [.ref l]) Q E s:=by
 obtain⟨⟨c,dct,dt,sl⟩,hl,hc,n,hd⟩:=hL
 replace hc:c= .type "tuple":=hc
 replace hd:dt= .seq items n:=hd
 subst hc hd
 refine callType_new F.called_enumerate (by decide) (F.typeCall_enumerate_1 _) (F.newCall_enumerate_1 _) (λobj=>F.args_object_init_2 obj _) F.entry_enumerate_new (Oh l items n dct sl) ⟨hl,?_⟩
 have hz:(s.heap.push {cls:=.type "tuple_iterator",data:=.fields #[.ref l,.int 0 0]}).objs.size=s.heap.objs.size+1:=Xw ..
 show _/\_;rw[hz]
 have he:IsEnum ((s.heap.push {cls:=.type "tuple_iterator",data:=.fields #[.ref l,.int 0 0]}).push {cls:=.type "enumerate",data:=.fields #[.none,.bool false,.ref s.heap.objs.size,rawInt 0,.none,.none]}) (s.heap.objs.size+1) s.heap.objs.size 0 .none:=by
  have:=Kz (s.heap.push {cls:=.type "tuple_iterator",data:=.fields #[.ref l,.int 0 0]}) (o:={cls:=.type "enumerate",data:=.fields #[.none,.bool false,.ref s.heap.objs.size,rawInt 0,.none,.none]}) rfl
  rw[hz] at this;exact this
 exact⟨⟨_,he,rfl⟩,h _ he ⟨_,K6 _ (Kz _ rfl),rfl,rfl⟩ λb o x=>K6 _ (K6 _ x)⟩
theorem oN {e it:Addr}{i:Int}{old:Value}{Q:Jx}(he:IsEnum s.heap e it i old)(h:Q (.ref e) s):wpAny (model prog w) A (pyIter (.ref e)) Q E s:=by
 have hT:s.TypeIs (.ref e) "enumerate":=⟨_,he,rfl⟩
 refine wpAny_pyIter_slot hT F.slot_enumerate_iter (J1 F.slot_enumerate_iter hT F.entry_enumerate_iter ?_ (F.args_enumerate_iter_1 _))
 show wpAny (model prog w) _ (ret (.ref e)) _ _ s
 exact J7 ⟨_,rfl,"enumerate",_,hT,F.slot_enumerate_next.lookup,h⟩
end
end L2
namespace L2
open PySem PySem.Spec PyProof.Rows Y
section
variable {X:Cx}{pins:List (Addr×Obj)}{σ:St}{H:Hp}{s:Shared}{h':Heap}
theorem Inv.z8 {fp:List Addr}{a:Addr}{o:HO}{t':Nat}(I:Inv X pins σ H s)(ha:s.heap.objs.size<=a)(k:∀b u,b∉fp->s.heap.get? b=some u->h'.get? b=some u)(hf:∀b∈fp,uE X pins H b)
  (new:gk X.prog X.w (upd H a o) h' a o):Inv X pins σ (upd H a o) {s with heap:=h',toks:=t'}:=by
 have hn:H a=none:=I.hok.fresh ha
 have Xc:∀b u,s.heap.get? b=some u->b≠a:=λb u e z=>by rw[z] at e;exact absurd (KU e) (Nat.not_lt.mpr ha)
 have Wm:∀b u,H b=some u->b∉fp:=λb u e z=>by rw[(hf b z).1] at e;cases e
 have hna:∀b u,H b=some u->b≠a:=λb u e z=>by rw[z,hn] at e;cases e
 refine I.step (g':=s.gens) (d':=s.drawn) (ch:=fp) (λb hb=> ?_) (λb u _ _ hc e _=>k b u hc e) (λb u _ _ hc e _=>⟨u.slots,k b u hc e⟩) (λb u _ e n=> ?_)
  (λb u hc e=>⟨u,k b u hc e⟩) (λb xs e=> ?_) (λb ob u e=> ?_) (λb ps e=>⟨#[],?_⟩) (λm hm=> ?_) (λb u e=> ?_) I.bare
 ·obtain⟨_,f1,_,f3,f4,f5⟩:=hf b hb
  exact⟨f3,f1,f4,f5⟩
 ·rw[a9 (Xc b u e)];exact n
 ·rw[a9 (hna b _ e)];exact e
 ·rw[a9 (hna b _ e)];exact e
 ·rw[a9 (hna b _ e),e];simp
 ·obtain⟨ob,es,ep,ho,r⟩:=hm
  exact⟨ob,es,ep,k _ ob (λz=>(hf _ z).2.1 rfl) ho,r⟩
 ·by_cases hb:b=a
  ·subst hb
   rw[aB] at e
   cases e
   exact new
  ·rw[a9 hb] at e
   refine(I.hok b u e).stay (λc v hc q=>k c v ?_ q) (λc q=> ?_) λc xs q=> ?_
   ·rcases hc with z | z
    ·rw[z];exact Wm b u e
    ·exact Wm c _ z
   ·rw[a9 (hna c _ q)];exact q
   ·rw[a9 (hna c _ q)];exact q
end
def Ite (K:Frag)(a:Addr)(n:Nat):It :=
 ⟨λi H=>i < n/\∃xs,gz K H a xs/\xs.length=n,λi H x H'=>∃t y,x= .ref t/\H t=none/\H'=upd H t (.tup [.int (i:Int),y])/\∀xs,gz K H a xs->xs[i]? =some y,λi H=>n<=i/\∃xs,gz K H a xs/\xs.length=n⟩
theorem IS {P:Program}{w:World}{K:Frag}{elts:List Expr}{x1:Nat}{tp:Pos}(a e it:Addr)(n:Nat)(hei:e≠it) :
  Turn P w K (.Tuple elts x1 tp) (Ite K a n) [e,it] e (λi h=>i<=n/\(∃old,IsEnum h e it (i:Int) old)/\IsTupIter h it a i) where
 mem:=by simp
 obj:=λi h st b hb=>by
  obtain⟨_,⟨old,h1⟩,o,h2,_,h3⟩:=st
  rcases K2.mp hb with z | z
  ·rw[z];exact⟨_,h1,λv z=>by cases z⟩
  ·rw[K7.mp z];exact⟨_,h2,λv z=>by rw[h3] at z;cases z⟩
 keep:=λi h h' st k=>by
  obtain⟨h0,⟨old,h1⟩,o,h2,h3⟩:=st
  exact⟨h0,⟨old,k e (by simp) _ h1⟩,o,k it (by simp) _ h2,h3⟩
 item:=by
  intro X hP hw hK hc i pins s σ H E I hf st hg;subst hP hw hK
  obtain⟨hi,xs,hq,hl⟩:=hg
  obtain⟨its,rv,pt,hz⟩:=I.tuple hq
  obtain⟨h0,⟨old,he⟩,hit⟩:=st
  have hlen:=rv.length
  obtain⟨ot,hot,hct,_⟩:=id pt
  have Vx:e≠a:=λz=>by
   rw[z] at he
   have:=Option.some.inj (he.symm.trans hot)
   rw[←this] at hct;simp at hct
  have hai:a≠it:=λz=>by
   obtain⟨oi,hoi,LR,_⟩:=hit
   rw[z] at hot
   have:=Option.some.inj (hot.symm.trans hoi)
   rw[←this,hct] at LR;simp at LR
  have hsz:its.toArray.size=n:=by rw[Kw];omega
  have D:=yT (prog:=X.prog) (w:=X.w) (A:=X.A.in1) (I.ok.hd hc) it a hai its.toArray
  rw[hsz] at D
  refine wpAny_pyNext_enum_itemD (fp:=[it,a]) D he ⟨hit,pt⟩ hi hei (by simp[hei,Vx]) λx h1 tk hx heo hst ht hz1 hk=> ?_
  refine⟨_,rfl,wpAny_letOwnedTupleGo_enum heo λh2 he2 hs2=> ?_⟩
  have hx':its[i]? =some x:=by simpa using hx
  obtain⟨y,hy,ry⟩:∃y,xs[i]? =some y/\RelV y x:=by
   have hy:xs[i]? =some (xs[i]'(by omega)):=K5 _
   obtain⟨u,hu,ru⟩:=rv.get hy
   rw[hx'] at hu;cases hu
   exact⟨_,hy,ru⟩
  have hel:e < s.heap.objs.size:=KU he
  have Np:h2.get? s.heap.objs.size=some {cls:=.type "tuple",data:=.seq #[.int (i:Int) tk,x]}:=(hs2.2 _ (UU hel)).trans ht
  have hk2:∀b o,b∉[e,it]->s.heap.get? b=some o->h2.get? b=some o:=λb o hb hbo=>by
   have hbe:b≠e:=λz=>hb (by simp[z])
   have hbi:b≠it:=λz=>hb (by simp[z])
   exact(hs2.2 b hbe).trans (hk b o hbe hbi hbo)
  refine⟨.ref s.heap.objs.size,upd H s.heap.objs.size (.tup [.int (i:Int),y]),I.z8 (fp:=[e,it]) (t':=tk+1) (Ku _) hk2 hf ⟨show 2<=sizeLine by decide,[.int (i:Int) tk,x],.cons ⟨tk,rfl⟩ (.cons ry .nil),_,Np,rfl,_,rfl⟩,rfl,
   ⟨s.heap.objs.size,y,rfl,I.fresh,rfl,λys hy'=>by rw[I.qY hy' hq];exact hy⟩,⟨by omega,⟨x,by simpa using he2⟩,?_⟩,λb hb=> ?_⟩
  ·obtain⟨oi,hoi,r⟩:=hst.1
   exact⟨oi,(hs2.2 it (Ne.symm hei)).trans hoi,r⟩
  ·have hb0:=(hf b hb).1
   have hbn:b≠s.heap.objs.size:=λz=>by
    rcases K2.mp hb with q | q
    ·rw[←q,z] at hel;exact absurd hel (XJ _)
    ·obtain⟨oi,hoi,_⟩:=hit
     rw[←K7.mp q,z] at hoi
     exact absurd (KU hoi) (XJ _)
   rw[a9 hbn];exact hb0
 done:=by
  intro X hP hw hK hc i pins s σ H E I hf st hg;subst hP hw hK
  obtain⟨h0,⟨old,he⟩,hit⟩:=st
  obtain⟨hg,xs,hq,hl⟩:=hg
  have hi:i=n:=YX h0 hg
  subst hi
  obtain⟨its,rv,pt,hz⟩:=I.tuple hq
  have hlen:=rv.length
  obtain⟨ot,hot,hct,_⟩:=id pt
  have hai:a≠it:=λz=>by
   obtain⟨oi,hoi,LR,_⟩:=hit
   rw[z] at hot
   have:=Option.some.inj (hot.symm.trans hoi)
   rw[←this,hct] at LR;simp at LR
  have hsz:its.toArray.size=i:=by rw[Kw];omega
  have D:=yT (prog:=X.prog) (w:=X.w) (A:=X.A.in1) (I.ok.hd hc) it a hai its.toArray
  rw[hsz] at D
  obtain⟨f0,f1,f2,f3,f4,f5⟩:=hf it (by simp)
  exact wpAny_pyNext_enum_endD (fp:=[it,a]) D he ⟨hit,pt⟩ λh' eb=>⟨rfl,I.turned (t':=s.toks) (λb o hb q=>eb b o hb q) f0 f1 f3 f4 f5⟩
 self:=λA i s Q E st h=>by
  obtain⟨_,⟨old,he⟩,_⟩:=st
  exact oN he h
section
variable {X:Cx}{K:Frag}{Ew:Str->Hp->Prop}{pos p tp:Pos}{elts:List Expr}{x1:Nat}{a:Expr}{ta:TE}{fa:EF}
def Vy (K:Frag)(ta:TE):TI:=λσ H R=>ta σ H λx H1=>∃q xs,x= .ref q/\gz K H1 q xs/\R (Ite K q xs.length) H1
theorem Oi (hg:Gl X "enumerate")(hm:X.mg "enumerate" =none)(ha:PE X a ta)(hs:starEach [a] X.env=[(false,eval a X.env)]:=by rfl):PI X (.Tuple elts x1 tp) (.Call (.Name "enumerate" p) [a] [] pos) (Vy X.K ta):=by
 intro pins s σ H R I h
 refine Call_ (gS I hg hm PyProof.Rows.boot_enumerate (PyProof.Rows.callWith_type1 (eQ (b9 ha fz hs pos pins s σ H (λvs H1=>match vs with
  | [x]=>∃q xs,x= .ref q/\gz X.K H1 q xs/\R (Ite X.K q xs.length) H1
  | _=>False) I h) λus s1 ⟨vs,H1,I1,r1,q1⟩=> ?_) hs rfl))
 match vs,r1,q1 with
 | [x],r1,q1=>
  obtain⟨q,xs,rfl,hq,fin⟩:=q1
  obtain⟨u,rfl,ru⟩:=r1.one
  cases ru
  obtain⟨its,rv,pl,hz⟩:=I1.tuple hq
  refine IQ pl λh' he hit hk=> ?_
  have I2:Inv X pins σ H1 {s1 with heap:=h',toks:=s1.toks}:=I1.kept (t':=s1.toks) hk
  refine oN he ⟨s1.heap.objs.size+1,[s1.heap.objs.size+1,s1.heap.objs.size],_,_,H1,rfl,I2,IS q (s1.heap.objs.size+1) s1.heap.objs.size xs.length (UU (U2 _)),⟨Xu _,⟨.none,he⟩,hit⟩,λb hb=> ?_,fin⟩
  rcases K2.mp hb with z | z
  ·rw[z];exact I1.sF (Uu _) (I1.hok.fresh (Uu _))
  ·rw[K7.mp z];exact I1.sF (Ku _) I1.fresh
 | [],r1,q1=>exact False.elim q1
 | _ :: _ :: _,r1,q1=>exact False.elim q1
theorem lD:∀(n:Nat) (ds:List PyData) (i:Nat),(gn n ds)[i]? =(ds[i]?).map λd=>PyData.tuple [.int ((n+i:Nat):Int),d]
 | n,[],i=>by simp[gn]
 | n,d :: ds,0=>by simp[gn]
 | n,d :: ds,i+1=>by
  rw[gn,Yw,Yw,lD (n+1) ds i]
  rw[show n+1+i=n+(i+1) by omega]
theorem eX:∀(n:Nat) (ds:List PyData),(gn n ds).length=ds.length
 | n,[]=>rfl
 | n,d :: ds=>by rw[gn,Kv,eX,Kv]
theorem IT {B:Hp}{a:Addr}{vs:List V}{ds:List PyData}(h:gz K B a vs)(t:aA K B ds vs):zG K B (Ite K a vs.length) (gn 0 ds) where
 go:=λi H hi s=>by
  have hl:=ap t
  rw[eX] at hi
  exact⟨by omega,vs,s.pz h,rfl⟩
 yl:=λi H x H' hi s y=>by
  obtain⟨tt,y,rfl,hn,rfl,hy⟩:=y
  have hl:=ap t
  rw[eX] at hi
  obtain⟨d,e,hd⟩:=jU t (hy vs (s.pz h))
  refine⟨Same.upd hn,.tuple [.int (i:Int),d],by rw[lD,e,Nat.zero_add];rfl,λB2 s2 hb=> ?_⟩
  exact ur (gz.of (hb tt _ hn aB)) (bq cx (bq (aJ.same s2 _ _ hd) bM))
 stop:=λH s=>by
  refine⟨?_,vs,s.pz h,rfl⟩
  rw[eX,ap t];exact Ku _
theorem HB (hg:Gl X "enumerate")(hm:X.mg "enumerate" =none)(ha:DE X K Ew a fa)(hK:X.K=K:=by rfl)(hs:starEach [a] X.env=[(false,eval a X.env)]:=by rfl):DI X K Ew (.Tuple elts x1 tp) (.Call (.Name "enumerate" p) [a] [] pos) (zx fa) :=
 (Oi hg hm ha hs).imp λσ H R q=>p_ (g:=λx _=>NV x.1 x.2) q λB φ Γ k d v H1 r s av q=>by
  replace q:CA K Ew B H Γ σ R (NV k d):=q
  cases d <;> try (exact False.elim q)
  rename_i ds
  obtain⟨B1,ψ,s1,r1,hd⟩:=r.mS av
  obtain⟨a,vs,rfl,h1,h2⟩:=aM hd
  rw[hK]
  exact⟨a,vs,rfl,r1.bs.pz h1,q _ H1 B1 ψ s s1 r1 (IT h1 h2)⟩
end
end L2
namespace Y
open PySem
def Rb (k:Kd):PyData->M (Kd×List PyData)
 | .list ds=>ah (k,gn 0 ds)
 | _=>none
def ma (e:EF):IF:=λΓ=>ar (e Γ) λx=>Rb x.1 x.2
end Y
namespace L2
open PySem PySem.Spec PyProof.Rows Y
open AutoSeq1 (wpAny_loadPart') in
theorem LS (l:Addr)(items:Array Value)(n:Nat)(dct:Option Addr)(sl:Array (Option Value)) :
  Meets (Builtin.«enumerate.__new__» ⟨[.type "enumerate",.ref l],[]⟩) (λ_ R s=>s.heap.get? l=some {cls:=.type "list",dict:=dct,data:=.seq items n,slots:=sl}/\
   R (.ok (.ret (.ref (s.heap.push {cls:=.type "list_iterator",data:=.fields #[.ref l,.int 0 0]}).objs.size)))
    {s with heap:=(s.heap.push {cls:=.type "list_iterator",data:=.fields #[.ref l,.int 0 0]}).push {cls:=.type "enumerate",data:=.fields #[.none,.bool false,.ref s.heap.objs.size,rawInt 0,.none,.none]}}) :=
 .of_wp λprog w A R s h=>by
  obtain⟨hp,g,d,tk,os⟩:=s;obtain⟨hl,h⟩:=h;have hsub:=sub_enumerate
  have hL:Heap.IsList (Shared.heap ⟨hp,g,d,tk,os⟩) l items:=⟨_,hl,rfl,n,rfl⟩
  wp_walk using wpAny_loadPart' hl
  refine wpAny_stack_any λst=>J7 ?_
  split
  ·rename_i c _ _ _ _ _
   cases(c==Value.type "enumerate") <;> (wp_walk using wpAny_loadPart' hl,wpAny_pyIter_list hL;exact⟨_,rfl,h⟩)
  ·(wp_walk using wpAny_loadPart' hl,wpAny_pyIter_list hL;exact⟨_,rfl,h⟩)
section
variable {prog:Program}{w:World}{A:Around}{E:Jx}{s:Shared}
theorem FR {l:Addr}{items:Array Value}{Q:Jx}(hL:s.heap.IsList l items)
  (h:∀h',IsEnum h' (s.heap.objs.size+1) s.heap.objs.size 0 .none->h'.IsListIter s.heap.objs.size l 0->(∀b o,s.heap.get? b=some o->h'.get? b=some o)->Q (.ref (s.heap.objs.size+1)) {s with heap:=h'}) :
  wpAny (model prog w) A (call (.type "enumerate") [.ref l]) Q E s:=by
 obtain⟨⟨c,dct,dt,sl⟩,hl,hc,n,hd⟩:=hL
 replace hc:c= .type "list":=hc
 replace hd:dt= .seq items n:=hd
 subst hc hd
 refine callType_new F.called_enumerate (by decide) (F.typeCall_enumerate_1 _) (F.newCall_enumerate_1 _) (λobj=>F.args_object_init_2 obj _) F.entry_enumerate_new (LS l items n dct sl) ⟨hl,?_⟩
 have hz:(s.heap.push {cls:=.type "list_iterator",data:=.fields #[.ref l,.int 0 0]}).objs.size=s.heap.objs.size+1:=Xw ..
 show _/\_;rw[hz]
 have he:IsEnum ((s.heap.push {cls:=.type "list_iterator",data:=.fields #[.ref l,.int 0 0]}).push {cls:=.type "enumerate",data:=.fields #[.none,.bool false,.ref s.heap.objs.size,rawInt 0,.none,.none]}) (s.heap.objs.size+1) s.heap.objs.size 0 .none:=by
  have:=Kz (s.heap.push {cls:=.type "list_iterator",data:=.fields #[.ref l,.int 0 0]}) (o:={cls:=.type "enumerate",data:=.fields #[.none,.bool false,.ref s.heap.objs.size,rawInt 0,.none,.none]}) rfl
  rw[hz] at this;exact this
 exact⟨⟨_,he,rfl⟩,h _ he ⟨_,K6 _ (Kz _ rfl),rfl,rfl⟩ λb o x=>K6 _ (K6 _ x)⟩
end
def Oj (K:Frag)(a:Addr)(n:Nat):It :=
 ⟨λi H=>i < n/\∃xs,iV K H a xs/\xs.length=n,λi H x H'=>∃t y,x= .ref t/\H t=none/\H'=upd H t (.tup [.int (i:Int),y])/\∀xs,iV K H a xs->xs[i]? =some y,λi H=>n<=i/\∃xs,iV K H a xs/\xs.length=n⟩
theorem FT {P:Program}{w:World}{K:Frag}{elts:List Expr}{x1:Nat}{tp:Pos}(a e it:Addr)(n:Nat)(hei:e≠it) :
  Turn P w K (.Tuple elts x1 tp) (Oj K a n) [e,it] e (λi h=>i<=n/\(∃old,IsEnum h e it (i:Int) old)/\h.IsListIter it a i) where
 mem:=by simp
 obj:=λi h st b hb=>by
  obtain⟨_,⟨old,h1⟩,o,h2,_,h3⟩:=st
  rcases K2.mp hb with z | z
  ·rw[z];exact⟨_,h1,λv z=>by cases z⟩
  ·rw[K7.mp z];exact⟨_,h2,λv z=>by rw[h3] at z;cases z⟩
 keep:=λi h h' st k=>by
  obtain⟨h0,⟨old,h1⟩,o,h2,h3⟩:=st
  exact⟨h0,⟨old,k e (by simp) _ h1⟩,o,k it (by simp) _ h2,h3⟩
 item:=by
  intro X hP hw hK hc i pins s σ H E I hf st hg;subst hP hw hK
  obtain⟨hi,xs,hq,hl⟩:=hg
  obtain⟨its,rv,Vz,hz⟩:=I.list hq
  have pt:=Vz.isList
  obtain⟨h0,⟨old,he⟩,hit⟩:=st
  have hlen:=rv.length
  obtain⟨ot,hot,hct,_⟩:=id pt
  have Vx:e≠a:=λz=>by
   rw[z] at he
   have:=Option.some.inj (he.symm.trans hot)
   rw[←this] at hct;simp at hct
  have hai:a≠it:=λz=>by
   obtain⟨oi,hoi,LR,_⟩:=hit
   rw[z] at hot
   have:=Option.some.inj (hot.symm.trans hoi)
   rw[←this,hct] at LR;simp at LR
  have hsz:its.toArray.size=n:=by rw[Kw];omega
  have D:=Draws.list (prog:=X.prog) (w:=X.w) (A:=X.A.in1) (I.ok.hd hc) it a hai its.toArray
  rw[hsz] at D
  refine wpAny_pyNext_enum_itemD (fp:=[it,a]) D he ⟨hit,pt⟩ hi hei (by simp[hei,Vx]) λx h1 tk hx heo hst ht hz1 hk=> ?_
  refine⟨_,rfl,wpAny_letOwnedTupleGo_enum heo λh2 he2 hs2=> ?_⟩
  have hx':its[i]? =some x:=by simpa using hx
  obtain⟨y,hy,ry⟩:∃y,xs[i]? =some y/\RelV y x:=by
   have hy:xs[i]? =some (xs[i]'(by omega)):=K5 _
   obtain⟨u,hu,ru⟩:=rv.get hy
   rw[hx'] at hu;cases hu
   exact⟨_,hy,ru⟩
  have hel:e < s.heap.objs.size:=KU he
  have Np:h2.get? s.heap.objs.size=some {cls:=.type "tuple",data:=.seq #[.int (i:Int) tk,x]}:=(hs2.2 _ (UU hel)).trans ht
  have hk2:∀b o,b∉[e,it]->s.heap.get? b=some o->h2.get? b=some o:=λb o hb hbo=>by
   have hbe:b≠e:=λz=>hb (by simp[z])
   have hbi:b≠it:=λz=>hb (by simp[z])
   exact(hs2.2 b hbe).trans (hk b o hbe hbi hbo)
  refine⟨.ref s.heap.objs.size,upd H s.heap.objs.size (.tup [.int (i:Int),y]),I.z8 (fp:=[e,it]) (t':=tk+1) (Ku _) hk2 hf ⟨show 2<=sizeLine by decide,[.int (i:Int) tk,x],.cons ⟨tk,rfl⟩ (.cons ry .nil),_,Np,rfl,_,rfl⟩,rfl,
   ⟨s.heap.objs.size,y,rfl,I.fresh,rfl,λys hy'=>by rw[I.B9 hy' hq];exact hy⟩,⟨by omega,⟨x,by simpa using he2⟩,?_⟩,λb hb=> ?_⟩
  ·obtain⟨oi,hoi,r⟩:=hst.1
   exact⟨oi,(hs2.2 it (Ne.symm hei)).trans hoi,r⟩
  ·have hb0:=(hf b hb).1
   have hbn:b≠s.heap.objs.size:=λz=>by
    rcases K2.mp hb with q | q
    ·rw[←q,z] at hel;exact absurd hel (XJ _)
    ·obtain⟨oi,hoi,_⟩:=hit
     rw[←K7.mp q,z] at hoi
     exact absurd (KU hoi) (XJ _)
   rw[a9 hbn];exact hb0
 done:=by
  intro X hP hw hK hc i pins s σ H E I hf st hg;subst hP hw hK
  obtain⟨h0,⟨old,he⟩,hit⟩:=st
  obtain⟨hg,xs,hq,hl⟩:=hg
  have hi:i=n:=YX h0 hg
  subst hi
  obtain⟨its,rv,Vz,hz⟩:=I.list hq
  have pt:=Vz.isList
  have hlen:=rv.length
  obtain⟨ot,hot,hct,_⟩:=id pt
  have hai:a≠it:=λz=>by
   obtain⟨oi,hoi,LR,_⟩:=hit
   rw[z] at hot
   have:=Option.some.inj (hot.symm.trans hoi)
   rw[←this,hct] at LR;simp at LR
  have hsz:its.toArray.size=i:=by rw[Kw];omega
  have D:=Draws.list (prog:=X.prog) (w:=X.w) (A:=X.A.in1) (I.ok.hd hc) it a hai its.toArray
  rw[hsz] at D
  obtain⟨f0,f1,f2,f3,f4,f5⟩:=hf it (by simp)
  exact wpAny_pyNext_enum_endD (fp:=[it,a]) D he ⟨hit,pt⟩ λh' eb=>⟨rfl,I.turned (t':=s.toks) (λb o hb q=>eb b o hb q) f0 f1 f3 f4 f5⟩
 self:=λA i s Q E st h=>by
  obtain⟨_,⟨old,he⟩,_⟩:=st
  exact oN he h
section
variable {X:Cx}{K:Frag}{Ew:Str->Hp->Prop}{pos p tp:Pos}{elts:List Expr}{x1:Nat}{a:Expr}{ta:TE}{fa:EF}
def Tg (K:Frag)(ta:TE):TI:=λσ H R=>ta σ H λx H1=>∃q xs,x= .ref q/\iV K H1 q xs/\R (Oj K q xs.length) H1
theorem LU (hg:Gl X "enumerate")(hm:X.mg "enumerate" =none)(ha:PE X a ta)(hs:starEach [a] X.env=[(false,eval a X.env)]:=by rfl):PI X (.Tuple elts x1 tp) (.Call (.Name "enumerate" p) [a] [] pos) (Tg X.K ta):=by
 intro pins s σ H R I h
 refine Call_ (gS I hg hm PyProof.Rows.boot_enumerate (PyProof.Rows.callWith_type1 (eQ (b9 ha fz hs pos pins s σ H (λvs H1=>match vs with
  | [x]=>∃q xs,x= .ref q/\iV X.K H1 q xs/\R (Oj X.K q xs.length) H1
  | _=>False) I h) λus s1 ⟨vs,H1,I1,r1,q1⟩=> ?_) hs rfl))
 match vs,r1,q1 with
 | [x],r1,q1=>
  obtain⟨q,xs,rfl,hq,fin⟩:=q1
  obtain⟨u,rfl,ru⟩:=r1.one
  cases ru
  obtain⟨its,rv,Xd,hz⟩:=I1.list hq
  have pl:=Xd.isList
  refine FR pl λh' he hit hk=> ?_
  have I2:Inv X pins σ H1 {s1 with heap:=h',toks:=s1.toks}:=I1.kept (t':=s1.toks) hk
  refine oN he ⟨s1.heap.objs.size+1,[s1.heap.objs.size+1,s1.heap.objs.size],_,_,H1,rfl,I2,FT q (s1.heap.objs.size+1) s1.heap.objs.size xs.length (UU (U2 _)),⟨Xu _,⟨.none,he⟩,hit⟩,λb hb=> ?_,fin⟩
  rcases K2.mp hb with z | z
  ·rw[z];exact I1.sF (Uu _) (I1.hok.fresh (Uu _))
  ·rw[K7.mp z];exact I1.sF (Ku _) I1.fresh
 | [],r1,q1=>exact False.elim q1
 | _ :: _ :: _,r1,q1=>exact False.elim q1
theorem FU {B:Hp}{a:Addr}{vs:List V}{ds:List PyData}(h:iV K B a vs)(t:aA K B ds vs):zG K B (Oj K a vs.length) (gn 0 ds) where
 go:=λi H hi s=>by
  have hl:=ap t
  rw[eX] at hi
  exact⟨by omega,vs,s.seq h,rfl⟩
 yl:=λi H x H' hi s y=>by
  obtain⟨tt,y,rfl,hn,rfl,hy⟩:=y
  have hl:=ap t
  rw[eX] at hi
  obtain⟨d,e,hd⟩:=jU t (hy vs (s.seq h))
  refine⟨Same.upd hn,.tuple [.int (i:Int),d],by rw[lD,e,Nat.zero_add];rfl,λB2 s2 hb=> ?_⟩
  exact ur (gz.of (hb tt _ hn aB)) (bq cx (bq (aJ.same s2 _ _ hd) bM))
 stop:=λH s=>by
  refine⟨?_,vs,s.seq h,rfl⟩
  rw[eX,ap t];exact Ku _
theorem vh (hg:Gl X "enumerate")(hm:X.mg "enumerate" =none)(ha:DE X K Ew a fa)(hK:X.K=K:=by rfl)(hs:starEach [a] X.env=[(false,eval a X.env)]:=by rfl):DI X K Ew (.Tuple elts x1 tp) (.Call (.Name "enumerate" p) [a] [] pos) (ma fa) :=
 (LU hg hm ha hs).imp λσ H R q=>p_ (g:=λx _=>Rb x.1 x.2) q λB φ Γ k d v H1 r s av q=>by
  replace q:CA K Ew B H Γ σ R (Rb k d):=q
  cases d <;> try (exact False.elim q)
  rename_i ds
  obtain⟨B1,ψ,s1,r1,hd⟩:=r.mS av
  obtain⟨a,vs,rfl,h1,h2⟩:=bg hd
  rw[hK]
  exact⟨a,vs,rfl,r1.bs.seq h1,q _ H1 B1 ψ s s1 r1 (FU h1 h2)⟩
end
def Rc (a:Addr)(ks:NW):It :=
 ⟨λi H=>i < ks.1.length/\Rd H a (.dct a ks),λi H x H'=>∃t k kv v,x= .ref t/\H t=none/\H'=upd H t (.tup [kv,v])/\ks.1[i]? =some (k,kv,v),λi H=>ks.1.length<=i/\Rd H a (.dct a ks)⟩
theorem vi {α β:Type}{F:α->β->Prop}:∀{l:List α} {m:List β} {i:Nat} {x:α},Paired F l m->l[i]? =some x->∃y,m[i]? =some y/\F x y
 | _,_,_,_,.nil,h=>by simp at h
 | _,_,0,x,.cons q r,h=>by simp at h;subst h;exact⟨_,rfl,q⟩
 | _,_,i+1,x,.cons q r,h=>by
  obtain⟨y,h1,h2⟩:=vi (i:=i) r (by simpa using h)
  exact⟨y,by simpa using h1,h2⟩
theorem FV {P:Program}{w:World}{K:Frag}{elts:List Expr}{x1:Nat}{tp:Pos}(a e:Addr)(ks:NW) :
  Turn P w K (.Tuple elts x1 tp) (Rc a ks) [e] e (λi h=>i<=ks.1.length/\∃ok ov,IsItemIter h e a i ks.1.length ks.2 ok ov) where
 mem:=by simp
 obj:=λi h st b hb=>by
  obtain⟨_,ok,ov,h1⟩:=st
  rw[K7.mp hb];exact⟨_,h1,λv z=>by cases z⟩
 keep:=λi h h' st k=>by
  obtain⟨h0,ok,ov,h1⟩:=st
  exact⟨h0,ok,ov,k e (by simp) _ h1⟩
 item:=by
  intro X hP hw hK hc i pins s σ H E I hf st hg;subst hP hw hK
  obtain⟨hi,hr⟩:=hg
  obtain⟨h0,ok,ov,he⟩:=st
  obtain⟨⟨hl,hs,hk,hn,o,es,ho,hxd,hd,p⟩,_⟩:=(show gk X.prog X.w H s.heap a (.dct a ks) from hr.ok I.hok)
  have hsz:es.size=ks.1.length:=by
   have:=Paired.len p
   simpa using this.symm
  obtain⟨en,hen,hh,rk,rv⟩:=vi p (K5 hi)
  have VA:es[i]? =some en:=by simpa using hen
  rw[←hsz] at he
  refine IP he ho hd VA λh1 heo ht hz1 hk1=> ?_
  refine⟨_,rfl,wpAny_letOwnedTupleGo_items heo λh2 he2 hs2=> ?_⟩
  have hel:e < s.heap.objs.size:=KU he
  have Np:h2.get? s.heap.objs.size=some {cls:=.type "tuple",data:=.seq #[en.key,en.val]}:=(hs2.2 _ (UU hel)).trans ht
  have hk2:∀b o,b∉[e]->s.heap.get? b=some o->h2.get? b=some o:=λb o hb hbo=>by
   have hbe:b≠e:=λz=>hb (by simp[z])
   exact(hs2.2 b hbe).trans (hk1 b o hbe hbo)
  refine⟨.ref s.heap.objs.size,upd H s.heap.objs.size (.tup [ks.1[i].2.1,ks.1[i].2.2]),I.z8 (fp:=[e]) (t':=s.toks) (Ku _) hk2 hf ⟨show 2<=sizeLine by decide,[en.key,en.val],.cons rk (.cons rv .nil),_,Np,rfl,_,rfl⟩,rfl,
   ⟨s.heap.objs.size,ks.1[i].1,ks.1[i].2.1,ks.1[i].2.2,rfl,I.fresh,rfl,K5 hi⟩,⟨by omega,en.key,en.val,?_⟩,λb hb=> ?_⟩
  ·rw[hsz] at he2;exact he2
  ·have hb0:=(hf b hb).1
   have hbn:b≠s.heap.objs.size:=λz=>by
    rw[←K7.mp hb,z] at hel;exact absurd hel (XJ _)
   rw[a9 hbn];exact hb0
 done:=by
  intro X hP hw hK hc i pins s σ H E I hf st hg;subst hP hw hK
  obtain⟨h0,ok,ov,he⟩:=st
  obtain⟨hg,hr⟩:=hg
  have hi:i=ks.1.length:=YX h0 hg
  subst hi
  obtain⟨⟨hl,hs,hk,hn,o,es,ho,hxd,hd,p⟩,_⟩:=(show gk X.prog X.w H s.heap a (.dct a ks) from hr.ok I.hok)
  have hsz:es.size=ks.1.length:=by
   have:=Paired.len p
   simpa using this.symm
  rw[←hsz] at he
  obtain⟨f0,f1,f2,f3,f4,f5⟩:=hf e (by simp)
  exact LQ (I.ok.hd hc) he ho hd λh' eb=>⟨rfl,I.turned (t':=s.toks) (λb o hb q=>eb b o hb q) f0 f1 f3 f4 f5⟩
 self:=λA i s Q E st h=>by
  obtain⟨_,ok,ov,he⟩:=st
  exact PySem.W.kcp_self he h
section
variable {X:Cx}{K:Frag}{Ew:Str->Hp->Prop}{pos p tp apos cpos:Pos}{elts:List Expr}{x1:Nat}{o:Expr}{to:TE}{fa:EF}
def Rf (to:TE):TI:=λσ H R=>to σ H λx H1=>∃a ks,x= .ref a/\Rd H1 a (.dct a ks)/\R (Rc a ks) H1
theorem LV (ho:PE X o to)(hbase:attributeBase o "items" X.env (eval o X.env)=eval o X.env:=by rfl)(hline:(apos.endLine==cpos.line)=true:=by rfl):PI X (.Tuple elts x1 tp) (.Call (.Attribute o "items" apos) [] [] cpos) (Rf to):=by
 intro pins s σ H R I h
 refine wpAny_Call_method0_late hbase hline (eQ (ho pins s σ H _ I h) λv s1 ⟨x,H1,I1,r1,q1⟩=> ?_)
 obtain⟨a,ks,rfl,hr,fin⟩:=q1
 obtain⟨h1,h2⟩:=LH I1 r1 ⟨a,ks,rfl,hr⟩
 cases(show v=Value.ref a from r1)
 refine⟨"dict","dict.items",PySem.F.plainAttrs_dict,PySem.F.slot_dict_items,PySem.F.type_dict_items,h1,h2,Calls.callWith_builtin rfl (PySem.evalArgs_none ?_)⟩
 obtain⟨⟨hl,hs,hk,hn,od,es,hod,hxd,hd,p⟩,_⟩:=(show gk X.prog X.w H1 s1.heap a (.dct a ks) from hr.ok I1.hok)
 have hsz:es.size=ks.1.length:=by
  have:=Paired.len p
  simpa using this.symm
 refine IM hs h1 (IN ⟨_,Kz _ rfl,rfl,rfl⟩ (K6 _ hod) hd ?_)
 have hz1:(s1.heap.push {cls:=.type "dict_items",data:=.fields #[.ref a]}).objs.size=s1.heap.objs.size+1:=Xw ..
 refine⟨_,[(s1.heap.push {cls:=.type "dict_items",data:=.fields #[.ref a]}).objs.size],_,_,H1,rfl,I1.kept (t':=s1.toks) λb u e=>K6 _ (K6 _ e),FV a _ ks,⟨Xu _,.none,.none,?_⟩,λb hb=> ?_,fin⟩
 ·rw[←hsz];exact Kz _ rfl
 ·rw[K7.mp hb,hz1]
  exact I1.sF (Uu _) (I1.hok.fresh (Uu _))
theorem C0 {H:Hp}:∀{kvs:oZ} {ks:List (PyData×V×V)} {i:Nat} {k:PyData} {kv v:V},a_ K H kvs ks->ks[i]? =some (k,kv,v)->∃d,kvs[i]? =some (k,d)/\aJ K H k kv/\aJ K H d v
 | [],ks,i,k,kv,v,h,e=>by simp only[a_] at h;subst h;simp at e
 | (k0,d0) :: r,ks,i,k,kv,v,h,e=>by
  simp only[a_] at h
  obtain⟨XI,v0,q,rfl,h1,h2,h3⟩:=h
  cases i with
  | zero=>simp at e;obtain⟨rfl,rfl,rfl⟩:=e;exact⟨d0,rfl,h1,h2⟩
  | succ i=>
   obtain⟨d,g1,g2,g3⟩:=C0 (i:=i) h3 (by simpa using e)
   exact⟨d,by simpa using g1,g2,g3⟩
theorem FW {B:Hp}{a:Addr}{ks:NW}{kvs:oZ}(h:Rd B a (.dct a ks))(t:a_ K B kvs ks.1):zG K B (Rc a ks) (kvs.map λp=> .tuple [p.1,p.2]) where
 go:=λi H hi s=>by
  rw[K4] at hi
  exact⟨by rw[jr t];exact hi,s.rd h⟩
 yl:=λi H x H' hi s y=>by
  obtain⟨tt,k,kv,v,rfl,hn,rfl,hy⟩:=y
  obtain⟨d,e,hk,hd⟩:=C0 t hy
  refine⟨Same.upd hn,.tuple [k,d],by rw[Kj,e];rfl,λB2 s2 hb=> ?_⟩
  exact ur (gz.of (hb tt _ hn aB)) (bq (aJ.same s2 _ _ hk) (bq (aJ.same s2 _ _ hd) bM))
 stop:=λH s=>by
  refine⟨?_,s.rd h⟩
  rw[K4,jr t];exact Ku _
theorem LW (ha:DE X K Ew o fa)(hK:X.K=K:=by rfl)(hbase:attributeBase o "items" X.env (eval o X.env)=eval o X.env:=by rfl)(hline:(apos.endLine==cpos.line)=true:=by rfl):DI X K Ew (.Tuple elts x1 tp) (.Call (.Attribute o "items" apos) [] [] cpos) (zY fa) :=
 (LV ha hbase hline).imp λσ H R q=>p_ (g:=λx _=>IH x.1 x.2) q λB φ Γ k d v H1 r s av q=>by
  replace q:CA K Ew B H Γ σ R (IH k d):=q
  cases d <;> try (exact False.elim q)
  rename_i kvs
  simp only[IH] at q
  split at q
  ·obtain⟨B1,ψ,s1,r1,hd⟩:=r.mS av
   obtain⟨a,ks,rfl,h1,h2⟩:=eE hd
   exact⟨a,ks,rfl,r1.bs.rd h1,q _ H1 B1 ψ s s1 r1 (FW h1 h2)⟩
  ·exact False.elim q
end
def L4 (m:Nat):List Nat:=[0,1,2,3].filter λk=>m.testBit k
def nj (led:Bool)(m:Nat):SetTable:={mask:=7,place:=(L4 m).toArray,dummies:=#[],finger:=0,led:=led,moves:=0,plain:=true}
def kR (f:Nat->Nat)(m:Nat):List (Int×Value):=(L4 m).map λ(k:Nat)=>((k:Int),Value.int (k:Int) (f k))
def vk (led:Bool)(h:Heap)(a:Addr)(m:Nat):Prop:=m < 16/\∃o ep f,h.get? a=some o/\o.ExactSet/\o.data= .set (kR f m).toArray ep (nj led m)
theorem IU (led:Bool):∀m < 16,∀(k:Nat),k < 4->m.testBit k=false->(nj led m).freeSlot (k:Int)=some (k,false):=by cases led <;> decide+kernel
theorem LX (led:Bool):∀m < 16,∀k < 4,m.testBit k=false->(nj led m).put k=(nj led (m ||| 2^k),((L4 m).filter (· < k)).length):=by cases led <;> decide+kernel
theorem rh (led:Bool):∀m < 16,(nj led m).fits (L4 m).length=true:=by cases led <;> decide+kernel
theorem LY (led:Bool):∀m < 16,(nj led m).tooFull=false:=by cases led <;> decide+kernel
theorem Wn:∀m < 16,∀k < 4,m ||| 2^k < 16:=by decide+kernel
theorem Rg:∀m < 16,∀k < 4,m.testBit k=true->m ||| 2^k=m:=by decide+kernel
theorem PC:∀(k:Nat),k < 4->hashInt ((k:Nat):Int)=(k:Int):=by decide+kernel
theorem Th {m k:Nat}(h:k∈L4 m):k < 4:=by
 have:=(U9.mp h).1
 simp only[K2,List.not_mem_nil,or_false] at this
 omega
theorem VB (f:Nat->Nat)(m k t:Nat)(hm:m < 16)(hk:k < 4)(h:m.testBit k=false) :
  SetTable.insertAt (kR f m).toArray ((L4 m).filter (· < k)).length ((k:Int),Value.int (k:Int) t)=(kR (λj=>if j=k then t else f j) (m ||| 2^k)).toArray:=by
 have hm':m=0∨m=1∨m=2∨m=3∨m=4∨m=5∨m=6∨m=7∨m=8∨m=9∨m=10∨m=11∨m=12∨m=13∨m=14∨m=15:=by omega
 have hk':k=0∨k=1∨k=2∨k=3:=by omega
 rcases hk' with rfl | rfl | rfl | rfl <;> rcases hm' with rfl | rfl | rfl | rfl | rfl | rfl | rfl | rfl | rfl | rfl | rfl | rfl | rfl | rfl | rfl | rfl <;> first | exact absurd h (by decide) | rfl
section
variable {prog:Program}{w:World}{A:Around}{E:Jx}{s:Shared}{led:Bool}{a:Addr}{m:Nat}
theorem IV (f:Nat->Nat)(hm:m < 16):ElemsOf (intKind prog w) (kR f m):=λe he=>by
 obtain⟨k,hk,rfl⟩:=Ky.mp he
 exact⟨⟨(k:Int),intKind_is _ _ _ _,(PC k (Th hk)).symm⟩,rfl⟩
theorem VC {k t:Nat}{Q:Bool->Shared->Prop}(hk:k < 4)(hS:vk led s.heap a m)
  (h:∀h',Heap.SameBut a s.heap h'->vk led h' a (m ||| 2^k)->∀b,Q b {s with heap:=h'}):wpAny (model prog w) A (setAddHashed a (.int (k:Int) t) (hashInt (k:Int))) Q E s:=by
 obtain⟨hm,o,ep,f,ho,hex,hd⟩:=hS
 have hel:ElemsOf (intKind prog w) (kR f m).toArray.toList:=IV f hm
 have hlen:(kR f m).toArray.size=(L4 m).length:=by simp[kR]
 have h4:(L4 m).length<=4:=Xq _ _
 have hf:(nj led m).fits (kR f m).toArray.size=true:=by rw[hlen];exact rh led m hm
 have hsc:(Value.int (k:Int) t).scannable=true:=rfl
 have hb:(kR f m).toArray.size < scanBound:=by rw[hlen];exact X0 h4 (by decide)
 unfold setAddHashed setAddHashedIn
 refine J2 (J8 (wpAny_setState_of ho hd hf ?_));dsimp only
 rw[byScan_of (knd:=intKind prog w) hsc hb hel,J5 rfl]
 unfold setAddByScan
 refine J8 (J8 (wpAny_rule (J8 (wpAny_setScan_of (knd:=intKind prog w) (k:=(k:Int)) (intKind_is _ _ _ _) ho hd hf hel ?_))))
 have hfi:(kR f m).toArray.toList.findIdx? (λe=>(intKind prog w).is (k:Int) e.2)=if m.testBit k=true then some ((L4 m).findIdx (· ==k)) else none:=by
  have hm':m=0∨m=1∨m=2∨m=3∨m=4∨m=5∨m=6∨m=7∨m=8∨m=9∨m=10∨m=11∨m=12∨m=13∨m=14∨m=15:=by omega
  have hk':k=0∨k=1∨k=2∨k=3:=by omega
  clear h hd hf hb hel hlen h4
  rcases hk' with rfl | rfl | rfl | rfl <;> rcases hm' with rfl | rfl | rfl | rfl | rfl | rfl | rfl | rfl | rfl | rfl | rfl | rfl | rfl | rfl | rfl | rfl <;> rfl
 rw[hfi]
 cases hb:m.testBit k with
 | true=>
  simp only[if_true]
  refine J7 (J7 ?_)
  have:=h s.heap (Heap.SameBut.refl a s.heap) (by rw[Rg m hm k hk hb];exact⟨hm,o,ep,f,ho,hex,hd⟩) false
  exact this
 | false=>
  simp only[U3,if_false]
  rw[PC k hk]
  have hlay:layNew (nj led m) (kR f m).toArray (k:Int) (.int (k:Int) t)=((kR (λj=>if j=k then t else f j) (m ||| 2^k)).toArray,nj led (m ||| 2^k),false,false):=by
   have hfit:=rh led (m ||| 2^k) (Wn m hm k hk)
   have hl2:(kR (λj=>if j=k then t else f j) (m ||| 2^k)).toArray.size=(L4 (m ||| 2^k)).length:=by simp[kR]
   unfold layNew
   rw[IU led m hm k hk hb]
   dsimp only
   rw[LX led m hm k hk hb]
   dsimp only
   rw[VB f m k t hm hk hb,SetTable.orStandIn,hl2,hfit]
   rfl
  rw[hlay]
  dsimp only
  have hm2:=Wn m hm k hk
  have hfew:=LY led (m ||| 2^k) hm2
  have hl2:(kR (λj=>if j=k then t else f j) (m ||| 2^k)).toArray.size<=sizeLine:=by
   refine Kq (show _<=4 from ?_) (by decide)
   simp only[kR,Kw,K4]
   exact Xq _ _
  have hpl:(nj led (m ||| 2^k)).plain=true:=rfl
  rw[J5 hpl,hashByValue_scannable 8 hsc]
  refine J8 (J7 (J8 (J7 ?_)))
  show wpAny _ A (storeSet a _ (nj led (m ||| 2^k)) >>=_) _ _ _
  refine J8 (wpAny_storeSet_of ho hd ?_ hl2)
  show wpAny _ A (if (!false && (nj led (m ||| 2^k)).tooFull)=true then _ else _) _ _ _
  rw[hfew]
  refine J7 (J7 ?_)
  refine h _ (Heap.SameBut.update s.heap a _) ⟨hm2,{o with data:=.set (kR (λj=>if j=k then t else f j) (m ||| 2^k)).toArray (ep+1) (nj led (m ||| 2^k))},ep+1,λj=>if j=k then t else f j,?_,hex,rfl⟩ true
  have hu:=Xk (Obj.putSet (kR (λj=>if j=k then t else f j) (m ||| 2^k)).toArray (nj led (m ||| 2^k))) ho (by rw[putSet_of _ _ hd];rfl)
  rw[putSet_of _ _ hd] at hu
  exact hu
end
def sK (val:Nat->Nat):Nat->Nat->Nat->Nat
 | 0,_,m=>m
 | c+1,i,m=>sK val c (i+1) (m ||| 2^val i)
section
variable {prog:Program}{w:World}{A:Around}{E:Jx}{s:Shared}{R:Result->Shared->Prop}{I:Addr}{fp wr:List Addr}{G:Array GenState->Array GenState->Prop}{n:Nat}{P:Nat->Value->Prop}{St:Nat->Shared->Prop}{led:Bool}
theorem vk.kept {h h':Heap}{a:Addr}{m:Nat}(hS:vk led h a m)(k:∀o,h.get? a=some o->h'.get? a=some o):vk led h' a m:=by
 obtain⟨hm,o,ep,f,ho,r⟩:=hS
 exact⟨hm,o,ep,f,k o ho,r⟩
theorem Ti (W:WalksS prog w A.in1 I fp wr G n P St)(S:Addr)(hSf:S∉fp)(val:Nat->Nat)(hval:∀i v,P i v->val i < 4/\∃t,v= .int (val i:Int) t) :
  ∀(c i m:Nat) (s:Shared),n - i=c->i<=n->St i s->vk led s.heap S m->(∀s',Moved (S :: wr) G s s'->vk led s'.heap S (sK val c i m)->R (.ok (.ret .none)) s')->
   codeAny (model prog w) A (.builtin "set.update.loop" ⟨[.ref S,.ref I],[]⟩) R s:=by
 have hSw:S∉wr:=λh=>hSf (W.sub _ h)
 have up:∀b∈wr,b∈S :: wr:=λb hb=>K9 _ hb
 intro c;induction c with
 | zero=>
  intro i m s hc hi hst hS hR
  obtain rfl:i=n:=by omega
  refine codeAny_builtin F.entry_set_update_loop ?_;rw[Around.under_plainId F.plain_set_update_loop _]
  refine J8 (m:=pyNext (.ref I)) (W.done s _ _ hst λs' hm=> ?_)
  exact J7 (hR s' (hm.mono up) (hS.kept λo e=>hm.heap S o hSw e))
 | succ c ih=>
  intro i m s hc hi hst hS hR
  refine codeAny_builtin F.entry_set_update_loop ?_;rw[Around.under_plainId F.plain_set_update_loop _]
  refine J8 (m:=pyNext (.ref I)) (W.item i s _ _ (by omega) hst λv s' hP hst' hm=> ?_)
  obtain⟨hlt,t,rfl⟩:=hval i v hP
  have hS':=hS.kept (h':=s'.heap) λo e=>hm.heap S o hSw e
  refine J8 (m:=holding [Value.int (val i:Int) t] (setAdd S (.int (val i:Int) t))) (J2 ?_)
  unfold setAdd
  refine J2 (J8 ((intKind prog w).pyHash (k:=(val i:Int)) (intKind_is _ _ _ _) ?_))
  refine VC (s:={s' with toks:=s'.toks+1}) hlt hS' λh' sb hS2 b=> ?_
  refine J7 ⟨plainId_quiet F.plain_set_update_loop _,ih (i+1) _ _ (by omega) (by omega) (W.frame _ s' _ _ hst' (Uu _) λb hb o e=> ?_) hS2 λs'' hm'' hS''=> ?_⟩
  ·rw[sb.2 b (λz:b=S=>hSf (z ▸ hb))];exact e
  ·refine hR s'' (Moved.trans W.gtrans ((hm.mono up).then_heap (Uu _) λb o hb e=> ?_) hm'') hS''
   rw[sb.2 b (λz:b=S=>hb (z ▸ K8))];exact e
def vm (w:World):Bool:=!w.params.followText "set-order"
def vn (w:World):Obj:={cls:=.type "set",dict:=none,data:=.set #[] 0 (.fresh 0 0 (vm w))}
theorem Rh {h:Heap}{a:Addr}(e:h.get? a=some (vn w)):vk (vm w) h a 0:=⟨by decide,vn w,0,λ_=>0,e,⟨rfl,rfl,rfl⟩,rfl⟩
theorem Ri (a:Value){Q₁:Jx}(h:Q₁ (.ref s.heap.objs.size) {s with heap:=s.heap.push (vn w)}) :
  codeAny (model prog w) A (.call (.builtin "set.__new__") ⟨[.type "set",a],[]⟩) (wants Q₁ E) s:=by
 refine codeAny_of_tree ?_
 show wpAny _ A.in1 (checkBuiltinCall "set.__new__" ⟨[.type "set",a],[]⟩ >>=λ_=>again (.builtin "set.__new__" ⟨[.type "set",a],[]⟩)) _ _ s
 refine J8 (wpAny_of_eq (PySem.F.newCall_set_1 a) (J7 ⟨plainId_quiet PySem.F.plain_set_new _,codeAny_builtin PySem.F.entry_set_new ?_⟩));rw[Around.under_plainId PySem.F.plain_set_new _]
 unfold Builtin.«set.__new__» Builtin.Frozenset.newClass
 have hsub:=sub_set_self
 obtain⟨hp,g,d,tk,os⟩:=s;dsimp only at h⊢;wp_walk
 refine wpAny_askSetting (J7 ?_);dsimp only;simp only[newObj]
 exact J8 (wpAny_alloc (J7 (J7 h)))
theorem IW {l:Addr}{items:Array Value}{val:Nat->Nat}{Q:Jx}(hh:A.handled=none)(hl:s.heap.IsList l items)(hval:∀i v,items[i]? =some v->val i < 4/\∃t,v= .int (val i:Int) t)
  (h:∀(h':Heap) (tk:Nat),vk (vm w) h' s.heap.objs.size (sK val items.size 0 0)->(∀b o,b < s.heap.objs.size->s.heap.get? b=some o->h'.get? b=some o)->Q (.ref s.heap.objs.size) {s with heap:=h',toks:=tk}) :
  wpAny (model prog w) A (call (.type "set") [.ref l]) Q E s:=by
 obtain⟨c,tl,hmro⟩:=PySem.F.called_set.mro;have hmade:=PySem.F.called_set.made;have hsub:=PySem.F.called_set.sub
 refine wpAny_call (codeAny_of_tree ?_)
 show wpAny _ _ (callAny (.type "set") _) _ _ _
 refine J7 ⟨Code.quiet_builtin _ (by decide+kernel),codeAny_builtin F.entry_type_call ?_⟩;rw[Around.under_plain (weight_type_call_type "set" [.ref l] []) rfl]
 have h1:=PySem.F.called_set.notType;have h2:=PySem.F.called_set.canCreate;have hct:=PySem.F.typeCall_set_1 (.ref l)
 (repeat (any_goals (first | assumption | wp_step)))
 refine codeAny_mono (Ri (.ref l) (E:=E) (Q₁:=λobj s₁=>obj= .ref s.heap.objs.size/\s₁={s with heap:=s.heap.push (vn w)}) ⟨rfl,rfl⟩) λr s₁ hr=> ?_
 cases r with
 | error e=>exact hr
 | ok fl=>
  cases fl with
  | ret obj=>
   obtain⟨rfl,rfl⟩:=hr
   have hS:(s.heap.push (vn w)).get? s.heap.objs.size=some (vn w):=Kz _ rfl
   have hT:Shared.TypeIs {s with heap:=s.heap.push (vn w)} (.ref s.heap.objs.size) "set":=⟨_,hS,rfl⟩
   have hli:=PySem.F.called_set.init.lookup;have hbi:=PySem.F.called_set.init.bind (.ref s.heap.objs.size)
   (repeat (any_goals (first | assumption | wp_step)))
   refine codeAny_mono (codeAny_call_builtin (R:=wants (λr s₂=>r= .none/\∃h' tk,s₂={s with heap:=h',toks:=tk}/\vk (vm w) h' s.heap.objs.size (sK val items.size 0 0)/\(∀b o,b < s.heap.objs.size->s.heap.get? b=some o->h'.get? b=some o)) E) PySem.F.called_set.init.plain PySem.F.entry_set_init (check_set_init_1 hT ?_)) λr₂ s₂ hr₂=> ?_
   ·have hl1:(s.heap.push (vn w)).IsList l items:=hl.push _
    obtain⟨ol,hol,hcl,nl,hdl⟩:=hl
    obtain⟨ocls,odict,odata,oslots⟩:=ol
    simp only at hcl hdl;subst hcl hdl
    have hol':(s.heap.push (vn w)).get? l=some {cls:=.type "list",dict:=odict,data:=.seq items nl,slots:=oslots}:=K6 _ hol
    have hsls:=PySem.F.sub_list_set;have hslf:=PySem.F.sub_list_frozenset
    have hne:(Value.type "list" ==Value.type "dict")=false:=by decide
    unfold Builtin.«set.__init__» noKeywords Builtin.Frozenset.updateFrom
    generalize hPI:pyIter=PI;wp_walk;subst hPI
    refine wpAny_pyIter_list hl1 (J8 (wpAny_runValue ?_))
    have hlS:l < s.heap.objs.size:=KU hol
    have hh3:A.in1.in1.in1.handled=none:=by simp[hh]
    have hneI:l≠(s.heap.push (vn w)).objs.size:=by rw[Xw];exact X1 (Uy hlS)
    have hSf:s.heap.objs.size∉[(s.heap.push (vn w)).objs.size,l]:=by
     rw[Xw];intro z;rcases K2.mp z with z | z
     ·exact X1 (U2 _) z
     ·exact UU hlS (K7.mp z)
    refine Ti ((Walks.list hh3 _ l hneI items).toS) s.heap.objs.size hSf val hval items.size 0 0 _ rfl (Xu _) ⟨⟨_,Kz _ rfl,rfl,rfl⟩,(hl1.push _)⟩ (Rh (K6 _ hS)) λs' hm hS'=> ?_
    obtain⟨h',g',d',tk',os'⟩:=s'
    obtain rfl:g'=s.gens:=hm.gens
    obtain rfl:d'=s.drawn:=hm.drawn
    obtain rfl:os'=s.os:=hm.os
    refine J7 (J7 ⟨rfl,h',tk',rfl,hS',λb o hb e=> ?_⟩)
    refine hm.heap b o (λz=> ?_) (K6 _ (K6 _ e))
    rcases K2.mp z with z | z
    ·exact X1 hb z
    ·rw[Xw] at z;exact X1 (Uy hb) (K7.mp z)
   ·cases r₂ with
    | error e=>exact hr₂
    | ok fl₂=>
     cases fl₂ with
     | ret r=>
      obtain⟨rfl,h',tk,rfl,hS',hk'⟩:=hr₂
      (repeat (any_goals (first | assumption | wp_step)))
      exact h _ _ hS' hk'
     | _=>exact hr₂.elim
  | _=>exact hr.elim
end
theorem eY:Slot "set_iterator" "__next__" "set_iterator.__next__" :=
 .of (owner:="set_iterator") (n:="__next__") (by(rw[typeLookup_type,builtinLookup_eq_fast]);kernel_rfl) (by decide+kernel) (by decide+kernel) (by decide+kernel) (by first | exact .inl (by decide+kernel) | exact .inr (by decide+kernel)) (by(rw[isSubtype_type]);kernel_rfl)
theorem qj:entryFor table "set_iterator.__next__" =some Builtin.«set_iterator.__next__»:=entryFor_of_tree (by(kernel_rfl))
theorem HC:Manifest.owners.lookup (String.ofList ['r','o','t','a','r','e','t','i','_','t','e','s'].reverse)=some Manifest.sig_set_iterator:=by(kernel_rfl)
theorem qk (a:Value):argsOk "set_iterator.__next__" ⟨[a],[]⟩:=by
 unfold argsOk;rw[signature?_of (id:="set_iterator.__next__") (n:=['_','_','t','x','e','n','_','_']) (o:=['r','o','t','a','r','e','t','i','_','t','e','s']) (by(kernel_rfl)) HC];(kernel_rfl)
theorem o3:Slot "set_iterator" "__iter__" "set_iterator.__iter__" :=
 .of (owner:="set_iterator") (n:="__iter__") (by(rw[typeLookup_type,builtinLookup_eq_fast]);kernel_rfl) (by decide+kernel) (by decide+kernel) (by decide+kernel) (by first | exact .inl (by decide+kernel) | exact .inr (by decide+kernel)) (by(rw[isSubtype_type]);kernel_rfl)
theorem z9 (a:Value):argsOk "set_iterator.__iter__" ⟨[a],[]⟩:=by
 unfold argsOk;rw[signature?_of (id:="set_iterator.__iter__") (n:=['_','_','r','e','t','i','_','_']) (o:=['r','o','t','a','r','e','t','i','_','t','e','s']) (by(kernel_rfl)) HC];(kernel_rfl)
theorem z_:entryFor table "set_iterator.__iter__" =some Builtin.«dict_keyiterator.__iter__» :=
 entryFor_alias (id':="dict_keyiterator.__iter__") (by(kernel_rfl)) (by first | rfl | decide+kernel | (unfold String.splitOn;simp+decide [String.splitOnAux])) (by decide+kernel) (by(kernel_rfl))
theorem slot_set_iter:Slot "set" "__iter__" "set.__iter__" :=
 .of (owner:="set") (n:="__iter__") (by(rw[typeLookup_type,builtinLookup_eq_fast]);kernel_rfl) (by decide+kernel) (by decide+kernel) (by decide+kernel) (by first | exact .inl (by decide+kernel) | exact .inr (by decide+kernel)) (by(rw[isSubtype_type]);kernel_rfl)
theorem Ol:Manifest.owners.lookup (String.ofList ['t','e','s'].reverse)=some Manifest.sig_set:=by(kernel_rfl)
theorem Aa (a:Value):argsOk "set.__iter__" ⟨[a],[]⟩:=by
 unfold argsOk;rw[signature?_of (id:="set.__iter__") (n:=['_','_','r','e','t','i','_','_']) (o:=['t','e','s']) (by(kernel_rfl)) Ol];(kernel_rfl)
theorem Ab:entryFor table "set.__iter__" =some Builtin.«frozenset.__iter__» :=
 entryFor_alias (id':="frozenset.__iter__") (by(kernel_rfl)) (by first | rfl | decide+kernel | (unfold String.splitOn;simp+decide [String.splitOnAux])) (by decide+kernel) (by(kernel_rfl))
theorem Ac:typeLookup (.type "set") "__len__" =pure (some (.builtin "set.__len__")):=by(rw[typeLookup_type,builtinLookup_eq_fast]);(kernel_rfl)
def xA (w:World)(f:Nat->Nat)(m ep:Nat):Obj:={cls:=.type "set",dict:=none,data:=.set (kR f m).toArray ep (nj (vm w) m)}
def pJ (S:Addr)(slot i n ep:Nat):Obj:={cls:=.type "set_iterator",data:=.fields #[rawInt (slot:Int),rawInt (i:Int),.ref S,rawInt (n:Int),rawInt (ep:Int)]}
def lE (w:World)(S:Addr)(f:Nat->Nat)(m ep:Nat):List (Int×Value):=if w.params.followText "set-order" =true then (pickOrder (w.params.setOrder S ep) (kR f m).toArray).toList else kR f m
def slotAt (m:Nat):Nat->Nat
 | 0=>0
 | i+1=>(L4 m).getD i 0+1
def iL (w:World)(m i:Nat):Nat:=if w.params.followText "set-order" =true then 0 else slotAt m i
theorem Rj:∀m < 16,∀i < 5,i<=(L4 m).length->SetTable.below (L4 m).toArray (slotAt m i)=i:=by decide+kernel
theorem vo {α:Type}:∀{l:List α} {i:Nat} (h:i < l.length),List.Perm (l[i] :: l.eraseIdx i) l
 | a :: l,0,_=>List.Perm.refl _
 | a :: l,i+1,h=>by
  rw[List.getElem_cons_succ,List.eraseIdx_cons_succ]
  exact(List.Perm.swap _ _ _).trans ((vo (by simpa using h)).cons a)
theorem HD {α:Type}(next:Nat->Nat):∀(fuel k:Nat) (left:List α) (out:Array α),left.length=fuel->List.Perm (pickOrder.go next fuel k left out).toList (out.toList++left)
 | 0,k,left,out,h=>by
  have:left=[]:=Yj.mp h
  subst this;simp[pickOrder.go]
 | fuel+1,k,left,out,h=>by
  have hlt:next k % left.length < left.length:=Nat.mod_lt _ (by omega)
  have e:left[next k % left.length]? =some (left[next k % left.length]):=K5 hlt
  simp only[pickOrder.go,e]
  refine(HD next fuel (k+1) _ _ (by rw[List.length_eraseIdx];simp[hlt];omega)).trans ?_
  rw[Array.toList_push,Xj]
  refine List.Perm.append_left _ ?_
  exact vo hlt
theorem oO (w:World)(S:Addr)(f:Nat->Nat)(m ep:Nat):List.Perm (lE w S f m ep) (kR f m):=by
 unfold lE;split
 ·have:=HD (w.params.setOrder S ep) (kR f m).toArray.size 0 (kR f m).toArray.toList #[] (by simp)
  simpa [pickOrder] using this
 ·exact List.Perm.refl _
section
variable {prog:Program}{w:World}{A:Around}{E:Jx}{s:Shared}{S it:Addr}{f:Nat->Nat}{m ep i:Nat}
theorem oP (hS:s.heap.get? S=some (xA w f m ep)):s.TypeIs (.ref S) "set":=⟨_,hS,rfl⟩
theorem j6 {slot n:Nat}(h:s.heap.get? it=some (pJ S slot i n ep)):s.TypeIs (.ref it) "set_iterator":=⟨_,h,rfl⟩
theorem j7 (hm:m < 16):(nj (vm w) m).fits (kR f m).toArray.size=true:=by
 have:(kR f m).toArray.size=(L4 m).length:=by simp[kR]
 rw[this];exact rh _ m hm
theorem Tj {Q:Jx}(hm:m < 16)(hS:s.heap.get? S=some (xA w f m ep))(h:Q (.ref s.heap.objs.size) {s with heap:=s.heap.push (pJ S 0 0 (L4 m).length ep)}) :
  wpAny (model prog w) A (pyIter (.ref S)) Q E s:=by
 refine wpAny_pyIter_slot (oP hS) slot_set_iter (J1 slot_set_iter (oP hS) Ab ?_ (Aa _))
 unfold Builtin.«frozenset.__iter__»
 refine J8 (wpAny_of_eq (a:=S) rfl ?_)
 unfold Builtin.Frozenset.sizeOf setEntries
 refine J8 (J8 (J8 (wpAny_setState_of hS rfl (j7 hm) (J7 (J7 ?_)))))
 unfold setDrawn setsByText
 refine J8 (J8 (wpAny_setState_of hS rfl (j7 hm) ?_));dsimp only
 refine J8 (J8 (wpAny_askSetting (J7 (J7 ?_))))
 split
 ·rename_i hc;exact(K3 ((Bool.and_false (!w.params.followText "set-order")).symm.trans hc)).elim
 refine J8 (J7 (J8 (wpAny_setEpoch_of hS rfl (j7 hm) ?_)))
 have hsz:(kR f m).toArray.size=(L4 m).length:=by simp[kR]
 rw[hsz]
 exact J8 (J0 (J7 ⟨_,rfl,"set_iterator",_,⟨_,Kz _ rfl,rfl⟩,eY.lookup,h⟩))
theorem LZ {slot n:Nat}{Q:Jx}(hit:s.heap.get? it=some (pJ S slot i n ep))(h:Q (.ref it) s):wpAny (model prog w) A (pyIter (.ref it)) Q E s:=by
 refine wpAny_pyIter_slot (j6 hit) o3 (J1 o3 (j6 hit) z_ ?_ (z9 _))
 show wpAny _ _ (ret (.ref it)) _ _ s;exact J7 ⟨_,rfl,"set_iterator",_,j6 hit,eY.lookup,h⟩
theorem PD {Q:Option (Value×Nat)->Shared->Prop}(hm:m < 16)(hS:s.heap.get? S=some (xA w f m ep))(hi:i<=(L4 m).length)
  (h:Q (((lE w S f m ep)[i]?).map λe=>(e.2,iL w m (i+1))) s):wpAny (model prog w) A (setNext S (iL w m i) i ep) Q E s:=by
 unfold setNext
 refine J8 (wpAny_setState_of hS rfl (j7 hm) ?_);dsimp only
 unfold setsByText
 refine J8 (J8 (wpAny_askSetting (J7 ?_)))
 cases hw:w.params.followText "set-order" with
 | true=>
  split
  ·split
   ·rename_i hc;exact absurd hc (by simp)
   ·unfold setWalk setsByText
    refine J8 (J8 (wpAny_setState_of hS rfl (j7 hm) ?_));dsimp only
    refine J8 (J8 (wpAny_askSetting (J7 ?_)))
    split
    ·refine J8 (wpAny_askSetting (J7 (J7 ?_)))
     have e1:iL w m (i+1)=iL w m i:=by unfold iL;rw[J5 hw,J5 hw]
     rw[e1] at h;unfold lE at h;rw[J5 hw,YJ] at h
     exact h
    ·rename_i hc;exact absurd hw hc
  ·rename_i hc;exact absurd hw hc
 | false=>
  split
  ·rename_i hc;exact absurd (hw.symm.trans hc) K3
  ·split
   ·rename_i hc;exact(K3 hc).elim
   ·refine J8 ?_
    show wpAny _ _ (if (!(vm w) && _)=true then _ else _) _ _ _
    have hl:vm w=true:=by unfold vm;rw[hw];rfl
    split
    ·rename_i hc;rw[hl] at hc;exact(K3 hc).elim
    ·refine J7 (J7 ?_)
     have e0:iL w m i=slotAt m i:=by unfold iL;rw[J6 (by rw[hw];exact K3)]
     have e1:iL w m (i+1)=slotAt m (i+1):=by unfold iL;rw[J6 (by rw[hw];exact K3)]
     have h4:(L4 m).length<=4:=Xq _ _
     have eb:SetTable.below (nj (vm w) m).place (slotAt m i)=i:=Rj m hm i (by omega) hi
     unfold lE at h;rw[J6 (by rw[hw];exact K3),e1] at h
     rw[e0,eb]
     show Q (match (kR f m).toArray[i]?,(L4 m).toArray[i]? with
      | some (_,x),some j=>some (x,j+1)
      | _,_=>none) s
     rw[List.getElem?_toArray,List.getElem?_toArray]
     by_cases hlt:i < (L4 m).length
     ·have g1:(kR f m)[i]? =some (((L4 m)[i]:Int),Value.int ((L4 m)[i]:Int) (f (L4 m)[i])):=by
       unfold kR;rw[Kj,K5 hlt];rfl
      rw[g1] at h⊢
      rw[K5 hlt]
      have g2:slotAt m (i+1)=(L4 m)[i]+1:=by show(L4 m).getD i 0+1=_;rw[KW,K5 hlt];rfl
      rw[g2] at h
      exact h
     ·have g1:(kR f m)[i]? =none:=Xz (by unfold kR;rw[K4];omega)
      rw[g1] at h⊢
      exact h
theorem L0 {n:Nat}{e:Int×Value}{Q:Option Value->Shared->Prop}(hm:m < 16)(hn:n=(L4 m).length)(hne:it≠S)(hit:s.heap.get? it=some (pJ S (iL w m i) i n ep))(hS:s.heap.get? S=some (xA w f m ep))(he:(lE w S f m ep)[i]? =some e)(hi:i<=n)
  (hQ:∀h',h'.get? it=some (pJ S (iL w m (i+1)) (i+1) n ep)->Heap.SameBut it s.heap h'->Q (some e.2) {s with heap:=h'}):wpAny (model prog w) A (pyNext (.ref it)) Q E s:=by
 unfold pyNext
 refine J8 (wpAny_attempt (wpAny_callSpecial?_slot (name:=Str.ofString "__next__") (j6 hit) eY (J1 eY (j6 hit) qj ?_ (qk _))))
 unfold Builtin.«set_iterator.__next__»
 refine J8 (wpAny_of_eq (a:=(Value.ref it,[])) rfl ?_);dsimp only
 refine J8 (wpAny_fieldsOf hit rfl ?_)
 unfold setEntries
 refine J8 (J8 (wpAny_setState_of hS rfl (j7 hm) (J7 ?_)))
 have hsz:(kR f m).toArray.size=n:=by rw[hn];simp[kR]
 split
 ·rename_i hc;exact absurd hc (by simp[hsz])
 show wpAny _ _ (setNext S ((iL w m i:Nat):Int).toNat ((i:Nat):Int).toNat ((ep:Nat):Int).toNat >>=_) _ _ _
 rw[K0,K0,K0]
 refine J8 (PD hm hS (hn ▸ hi) ?_);rw[he]
 refine J8 (wpAny_setField hit rfl (by simp) ?_)
 have hit1:=Xk (Obj.mapFields (·.setIfInBounds 0 (rawInt ((iL w m (i+1):Nat):Int)))) hit rfl
 refine J8 (wpAny_setField hit1 rfl (by simp) ?_)
 refine J7 ⟨_,rfl,J7 (hQ _ ?_ ((Heap.SameBut.update ..).trans (Heap.SameBut.update ..)))⟩
 exact Xk (Obj.mapFields (·.setIfInBounds 1 (rawInt ((i:Int)+1)))) hit1 rfl
theorem Om {n:Nat}{Q:Option Value->Shared->Prop}(hh:A.handled=none)(hm:m < 16)(hn:n=(L4 m).length)(hit:s.heap.get? it=some (pJ S (iL w m n) n n ep))(hS:s.heap.get? S=some (xA w f m ep))
  (hQ:∀h' tk,Heap.ExtBut it s.heap h'->Q none {s with heap:=h',toks:=tk}):wpAny (model prog w) A (pyNext (.ref it)) Q E s:=by
 unfold pyNext
 refine J8 (wpAny_attempt (wpAny_callSpecial?_slot (name:=Str.ofString "__next__") (j6 hit) eY (J1 eY (j6 hit) qj ?_ (qk _))))
 unfold Builtin.«set_iterator.__next__»
 refine J8 (wpAny_of_eq (a:=(Value.ref it,[])) rfl ?_);dsimp only
 refine J8 (wpAny_fieldsOf hit rfl ?_)
 unfold setEntries
 refine J8 (J8 (wpAny_setState_of hS rfl (j7 hm) (J7 ?_)))
 have hsz:(kR f m).toArray.size=n:=by rw[hn];simp[kR]
 split
 ·rename_i hc;exact absurd hc (by simp[hsz])
 show wpAny _ _ (setNext S ((iL w m n:Nat):Int).toNat ((n:Nat):Int).toNat ((ep:Nat):Int).toNat >>=_) _ _ _
 rw[K0,K0,K0]
 have he:(lE w S f m ep)[n]? =none:=Xz (by rw[(oO w S f m ep).length_eq,hn];simp[kR])
 refine J8 (PD hm hS (Nat.le_of_eq hn) ?_);rw[he]
 refine J8 (wpAny_setField hit rfl (by simp) ?_)
 (first | show wpAny _ _ (newExc (.type "StopIteration") [] >>=_) _ _ _ | (wp_delta;show wpAny _ _ (newExc (.type "StopIteration") [] >>=_) _ _ _))
 refine J8 ?_;simp only[newExc,newTuple];refine J8 (J0 ?_ (by size_fits));refine J8 (m:=firstArgMember _ _) (wpAny_of_eq (a:=Value.none) (by first | rfl | (simp only[firstArgMember];rfl)) ?_);refine J0 ?_ (by size_fits)
 simp only[raiseNew];refine J8 (wpAny_handled ?_);(first | rw[show A.in1.handled=none from hh] | rw[hh])
 refine J8 (J7 (wpAny_throw ?_));refine J8 (wpAny_isInstance (T:="StopIteration") (b:=true) ⟨_,Kz _ rfl,rfl⟩ isSubtype_stop ?_)
 exact J7 (hQ _ _ (((Heap.SameBut.update ..).extBut.push _).push _))
theorem Tl (hh:A.handled=none)(hm:m < 16)(hne:it≠S):Walks prog w A it [it,S] [it] (L4 m).length (λi v=>∃e,(lE w S f m ep)[i]? =some e/\v=e.2)
  (λi h=>i<=(L4 m).length/\h.get? it=some (pJ S (iL w m i) i (L4 m).length ep)/\h.get? S=some (xA w f m ep)) where
 sub:=λb hb=>by simp at hb;simp[hb]
 frame:=λ_ _ _ st hk=>⟨st.1,hk it (by simp) _ st.2.1,hk S (by simp) _ st.2.2⟩
 item:=λi s Q E hi st hQ=>by
  have hlt:i < (lE w S f m ep).length:=by rw[(oO w S f m ep).length_eq];simpa [kR] using hi
  have he:(lE w S f m ep)[i]? =some (lE w S f m ep)[i]:=K5 hlt
  refine L0 hm rfl hne st.2.1 st.2.2 he st.1 λh' hit' hs'=> ?_
  exact hQ _ h' s.toks ⟨_,he,rfl⟩ ⟨hi,hit',by rw[hs'.2 S (Ne.symm hne)];exact st.2.2⟩ λb o hb e=>hs'.extBut b o (λh=>hb (by simp[h])) e
 done:=λs Q E st hQ=>Om hh hm rfl st.2.1 st.2.2 λh' tk he'=>hQ h' tk λb o hb e=>he' b o (λh=>hb (by simp[h])) e
 self:=λ_ _ _ _ st hQ=>LZ st.2.1 hQ
end
section
variable {prog:Program}{w:World}{A:Around}{E:Jx}{s:Shared}{S:Addr}{f:Nat->Nat}{m ep:Nat}
def md:Obj:={cls:=.type "list",data:=.seq ([]:List Value).toArray}
theorem FX {Q:List Value->Shared->Prop}(hh:A.handled=none)(hm:m < 16)(hS:s.heap.get? S=some (xA w f m ep))
  (hQ:∀h' tk,s.heap.objs.size < h'.objs.size->(∀b o,b < s.heap.objs.size->s.heap.get? b=some o->h'.get? b=some o)->Q ((lE w S f m ep).map Prod.snd) {s with heap:=h',toks:=tk}):wpAny (model prog w) A (collect (.ref S)) Q E s:=by
 have hSlt:S < s.heap.objs.size:=KU hS
 have nI:s.heap.objs.size≠S:=UU hSlt
 unfold collect
 refine J8 (wpAny_runValue (codeAny_builtin F.entry_proto_collect ?_));rw[Around.under_plainId F.plain_proto_collect _]
 show wpAny _ A.in1 (newList [] >>=λl=>again (.builtin "list.__iadd__" ⟨[l,.ref S],[]⟩)) _ _ s
 refine J8 (J0 ?_);refine J7 ⟨plainId_quiet F.plain_list_iadd _,codeAny_builtin F.entry_list_iadd ?_⟩;rw[Around.under_plainId F.plain_list_iadd _]
 have new1:(s.heap.push md).get? s.heap.objs.size=some md:=(Kz _ rfl)
 have hS1:(s.heap.push md).get? S=some (xA w f m ep):=K6 _ hS
 have h1:Builtin.List.listSameRef (.ref s.heap.objs.size) (.ref S)=false:=by(simp[Builtin.List.listSameRef,nI])
 show wpAny _ A.in1 (Builtin.List.listExtendWith (.ref s.heap.objs.size) (.ref S) (.ref s.heap.objs.size)) _ _ {s with heap:=s.heap.push md};unfold Builtin.List.listExtendWith
 have hT:Shared.TypeIs {s with heap:=s.heap.push md} (.ref S) "set":=oP (w:=w) (f:=f) (m:=m) (ep:=ep) (s:={s with heap:=s.heap.push md}) hS1
 refine J8 (wpAny_typeOf hT ?_)
 rw[J6 (by rw[h1];decide)]
 refine J8 (Tj (s:={s with heap:=s.heap.push md}) hm hS1 ?_)
 have hS2:((s.heap.push md).push (pJ S 0 0 (L4 m).length ep)).get? S=some (xA w f m ep):=K6 _ hS1
 have hT2:Shared.TypeIs {s with heap:=(s.heap.push md).push (pJ S 0 0 (L4 m).length ep)} (.ref S) "set":=oP (w:=w) (f:=f) (m:=m) (ep:=ep) (s:={s with heap:=(s.heap.push md).push (pJ S 0 0 (L4 m).length ep)}) hS2
 refine J8 (J2 ?_)
 unfold Builtin.List.listLengthHint
 refine J8 (Jk hT2 Ac ?_)
 generalize hid:("set.__len__":String)=id0
 wp_delta
 rw[show splitId id0=some ("set","__len__") from by subst hid;decide+kernel]
 subst hid
 refine J8 (wpAny_isInstance (b:=true) hT2 (by rw[isSubtype_type];kernel_rfl) ?_)
 rw[J6 (by decide),J5 (by decide+kernel)]
 refine J8 (wpAny_typeOf hT2 (J7 ?_))
 rw[J5 (by decide+kernel)]
 refine J8 (wpAny_rule (J8 ?_))
 have new2:((s.heap.push md).push (pJ S 0 0 (L4 m).length ep)).get? s.heap.objs.size=some md:=K6 _ new1
 show wpAny _ A.in1 (updateSeq s.heap.objs.size (·.push .none) >>=λ_=>updateSeq s.heap.objs.size (·.pop)) _ _ _
 refine J8 (wpAny_updateSeq new2 rfl ?_)
 have Tn:=Xk (Obj.mapSeq (·.push Value.none)) new2 rfl
 refine wpAny_updateSeq Tn rfl ?_
 have Ri:=Xk (Obj.mapSeq (·.pop)) Tn rfl
 have Wo:s.heap.objs.size≠(s.heap.push md).objs.size:=by rw[Xw];exact X1 (U2 _)
 have Xe:(s.heap.push md).objs.size≠S:=by rw[Xw];exact UU (Uy hSlt)
 have Xf:((s.heap.push md).push (pJ S 0 0 (L4 m).length ep)).get? (s.heap.push md).objs.size=some (pJ S 0 0 (L4 m).length ep):=Kz _ rfl
 have oth:∀b o,b≠s.heap.objs.size->((s.heap.push md).push (pJ S 0 0 (L4 m).length ep)).get? b=some o->((((s.heap.push md).push (pJ S 0 0 (L4 m).length ep)).update s.heap.objs.size (Obj.mapSeq (·.push Value.none))).update s.heap.objs.size (Obj.mapSeq (·.pop))).get? b=some o :=
  λb o hb e=>(Y2 _ _ (Ne.symm hb)).trans ((Y2 _ _ (Ne.symm hb)).trans e)
 have s0:iL w m 0=0:=by unfold iL slotAt;split <;> rfl
 have Xg:(L4 m).length<=sizeLine:=Kq (Xq _ _) (by decide)
 have nS:s.heap.objs.size∉[(s.heap.push md).objs.size,S]:=λz=>by
  rcases K2.mp z with z | z
  ·exact Wo z
  ·exact nI (K7.mp z)
 refine J7 ⟨plainId_quiet F.plain_extend_loop _,codeAny_extend_loopS ((Tl (f:=f) (ep:=ep) (show A.in1.handled=none by simp[hh]) hm Xe).toS) Xg _ nS _ (L4 m).length 0 _ _ _ rfl (Xu _) ⟨Xu _,by rw[s0];exact oth _ _ (Ne.symm Wo) Xf,oth _ _ (Ne.symm nI) hS2⟩ Ri (ItemsOf.nil _) λs' acc' c' T8 hS' hacc=> ?_⟩
 show wpAny _ A (load s.heap.objs.size >>=_) _ _ s';refine J8 (wpAny_load hS' ?_)
 obtain⟨h',g',d',tk',os'⟩:=s'
 obtain rfl:g'=s.gens:=T8.gens
 obtain rfl:d'=s.drawn:=T8.drawn
 obtain rfl:os'=s.os:=T8.os
 have VD:acc'.toList=(lE w S f m ep).map Prod.snd:=by
  have hlo:(lE w S f m ep).length=(L4 m).length:=by rw[(oO w S f m ep).length_eq];simp[kR]
  refine List.ext_getElem? λj=> ?_
  rw[YJ,Kj]
  by_cases hj:j < (L4 m).length
  ·have e1:acc'[j]? =some (acc'[j]'(by rw[hacc.1];exact hj)):=Array.getElem?_eq_getElem _
   obtain⟨e,he,hv⟩:=hacc.2 j _ e1
   rw[e1,he,hv];rfl
  ·rw[Array.getElem?_eq_none (by rw[hacc.1];omega),Xz (by omega)];rfl
 refine J7 ?_
 rw[VD]
 refine hQ h' tk' (KU hS') λb o hb e=> ?_
 have hb1:b≠s.heap.objs.size:=X1 hb
 refine T8.heap b o (λz=> ?_) (oth b o hb1 (K6 _ (K6 _ e)))
 rcases K2.mp z with z | z
 ·exact hb1 z
 ·have z':=K7.mp z
  rw[Xw] at z';exact X1 (Uy hb) z'
end
theorem IX (m:Nat):((L4 m).map λ(k:Nat)=>(k:Int)).Pairwise (· <= ·):=by
 refine List.pairwise_map.mpr ?_
 have:([0,1,2,3]:List Nat).Pairwise (λ(a b:Nat)=>(a:Int)<=(b:Int)):=by decide
 exact this.sublist (List.filter_sublist)
theorem C1:∀(l:List (Int×Value)),(∀e∈l,∃t,e.2= .int e.1 t)->IntsAre (l.map Prod.snd) (l.map Prod.fst)
 | [],_=> .nil
 | (i,v) :: l,h=>by
  obtain⟨t,e⟩:=h (i,v) K8
  have e':v= .int i t:=e
  subst e'
  exact .cons i t (C1 l λe he=>h e (K9 _ he))
section
variable {prog:Program}{w:World}{A:Around}{E:Jx}{s:Shared}{S:Addr}{m:Nat}
theorem IY {Q:Jx}(hh:A.handled=none)(hS:vk (vm w) s.heap S m)
  (hQ:∀h' tk a (out:List Value) c,s.heap.objs.size<=a->h'.get? a=some {cls:=.type "list",data:=.seq out.toArray c}->IntsAre out ((L4 m).map λ(k:Nat)=>(k:Int))->(∀b o,b < s.heap.objs.size->s.heap.get? b=some o->h'.get? b=some o)->Q (.ref a) {s with heap:=h',toks:=tk}) :
  wpAny (model prog w) A (call (.builtin "sorted") [.ref S]) Q E s:=by
 obtain⟨hm,o,ep,f,ho,hex,hd⟩:=hS
 have hS:s.heap.get? S=some (xA w f m ep):=by
  rw[ho];obtain⟨h1,h2,h3⟩:=hex;cases o;simp only at h1 h2 h3 hd;subst h1 h2 h3 hd;rfl
 refine Calls.call_function_entry kind_sorted plain_sorted entry_sorted (args_sorted1 _) ?_
 unfold Builtin.«sorted»
 refine J8 (m:=checkCount "sorted" 1 1 _) (J7 ?_);refine J8 (FX (show A.in1.handled=none by simp[hh]) hm hS λh1 tk hlt1 hk=> ?_)
 have hp:=oO w S f m ep
 have Xh:(lE w S f m ep).length<=4:=by rw[hp.length_eq];simp only[kR,K4];exact Xq _ _
 refine J8 (wpAny_newList ?_ (Kq (by rw[K4];exact Xh) (by decide)))
 have hI:IntsAre ((lE w S f m ep).map Prod.snd) ((lE w S f m ep).map Prod.fst):=C1 _ λe he=>by
  obtain⟨k,_,rfl⟩:=Ky.mp (hp.mem_iff.mp he)
  exact⟨_,rfl⟩
 have hoL:(h1.push {cls:=.type "list",data:=.seq ((lE w S f m ep).map Prod.snd).toArray}).get? h1.objs.size=some (seqObj "list" ((lE w S f m ep).map Prod.snd).toArray 0):=Kz _ rfl
 refine J8 (J2 (J1 slot_list_sort ⟨_,hoL,rfl⟩ entry_list_sort (list_sort_tree (s:={s with heap:=h1.push {cls:=.type "list",data:=.seq ((lE w S f m ep).map Prod.snd).toArray},toks:=tk}) hoL hI (by rw[K4];omega) λout ns' a1 a2 a3=>⟨_,rfl,?_⟩) (args_list_sort _)))
 obtain⟨c,hc⟩:=sortedHeap_at (out:=out) hoL
 have hge:s.heap.objs.size<=h1.objs.size:=YK hlt1
 have hns:ns'=(L4 m).map λ(k:Nat)=>(k:Int):=by
  refine PySem.W.ksm_same (a2.trans ((hp.map Prod.fst).trans ?_)) a3 (IX m)
  unfold kR;rw[X7];exact List.Perm.refl _
 subst hns
 refine J7 ⟨_,rfl,hQ _ tk _ out.toList c hge (by simpa using hc) a1 λb o hb e=> ?_⟩
 have hb1:=hk b o hb e
 have hlt:=KU hb1
 rw[sortedHeap_old (X1 hlt) (by rw[Xw];exact Uy hlt)]
 exact K6 _ hb1
end
theorem C2 (val:Nat->Nat)(k:Nat):∀(c i m:Nat),(sK val c i m).testBit k=(m.testBit k || (List.range c).any λj=>val (i+j)==k)
 | 0,i,m=>by simp[sK]
 | c+1,i,m=>by
  rw[sK,C2 val k c (i+1),Nat.testBit_or,Nat.testBit_two_pow,List.range_succ_eq_map,Y1,List.any_map,Bool.or_assoc]
  congr 1
  have e:(decide (val i=k))=(val (i+0)==k):=by rw[Nat.add_zero];rfl
  rw[e]
  congr 1
  congr 1
  funext j
  show(val (i+1+j)==k)=(val (i+(j+1))==k)
  rw[show i+1+j=i+(j+1) by omega]
theorem IZ {vs:List Value}{ns:List Int}(h:IntsAre vs ns):Vals (ns.map V.int) vs:=by
 induction h with
 | nil=>exact .nil
 | cons n t _ ih=>exact .cons ⟨t,rfl⟩ ih
theorem L1:∀{xs:List PyData},xs.all in4=true->∃ys:List Nat,xs=ys.map (λ(k:Nat)=>PyData.int (k:Int))/\∀k∈ys,k < 4
 | [],_=>⟨[],rfl,λk hk=>by cases hk⟩
 | x :: xs,h=>by
  rw[List.all_cons,KQ] at h
  obtain⟨ys,rfl,h2⟩:=L1 h.2
  obtain⟨i,rfl,h0,h4⟩:∃i:Int,x= .int i/\0<=i/\i < 4:=by
   cases x <;> first | (rename_i i;exact⟨i,rfl,by simpa [in4] using h.1⟩) | (exact absurd h.1 (by simp[in4]))
  obtain⟨k,rfl⟩:=Yq h0
  exact⟨k :: ys,rfl,λj hj=>by
   rcases K2.mp hj with z | z
   ·rw[z];omega
   ·exact h2 j z⟩
theorem yU {K:Frag}{H:Hp}:∀{ys:List Nat} {vs:List V},aA K H (ys.map λ(k:Nat)=>PyData.int (k:Int)) vs->vs=ys.map λ(k:Nat)=>V.int (k:Int)
 | [],vs,h=>by simpa [aA] using h
 | y :: ys,vs,h=>by
  simp only[KZ,aA,aJ] at h
  obtain⟨v,r,rfl,rfl,h2⟩:=h
  rw[yU h2];rfl
theorem yV {K:Frag}{H:Hp}:∀(ys:List Nat),aA K H (ys.map λ(k:Nat)=>PyData.int (k:Int)) (ys.map λ(k:Nat)=>V.int (k:Int))
 | []=>bM
 | y :: ys=>by
  simp only[KZ,aA]
  exact⟨_,_,rfl,cx,yV ys⟩
theorem L3 (ys:List Nat):CI (ys.map λ(k:Nat)=>PyData.int (k:Int))=(L4 (sK (λi=>ys.getD i 0) ys.length 0 0)).map λ(k:Nat)=>PyData.int (k:Int):=by
 unfold CI L4
 congr 1
 refine List.filter_congr λk _=> ?_
 rw[C2,Nat.zero_testBit,Bool.false_or,List.any_map]
 rw[Uz,List.any_eq_true,List.any_eq_true]
 constructor
 ·rintro⟨y,hy,hk⟩
  obtain⟨i,hi,rfl⟩:=List.getElem_of_mem hy
  have hk2:((ys[i]:Nat):Int)=(k:Int):=by simpa [S7] using hk
  have hk':ys[i]=k:=by omega
  exact⟨i,X2.mpr hi,by simp[KW,K5 hi,hk']⟩
 ·rintro⟨i,hi,hk⟩
  have hi':=X2.mp hi
  refine⟨ys[i],Xy hi',?_⟩
  have hk':ys[i]=k:=by simpa [KW,K5 hi'] using hk
  simp[S7,hk']
section
variable {X:Cx}{K:Frag}{Ew:Str->Hp->Prop}{pos pos2 p p2:Pos}{a:Expr}{ta:TE}{fa:EF}
def L5 (K:Frag)(ta:TE):TE:=λσ H Q=>ta σ H λx H1=>∃q,∃ys:List Nat,x= .ref q/\iV K H1 q (ys.map λ(k:Nat)=>V.int (k:Int))/\(∀k∈ys,k < 4)/\∀t,H1 t=none->Q (.ref t) (upd H1 t (.lst ((L4 (sK (λi=>ys.getD i 0) ys.length 0 0)).map λ(k:Nat)=>V.int (k:Int))))
theorem FY (hc:X.calm=true)(hg:Gl X "sorted")(hm:X.mg "sorted" =none)(hg2:Gl X "set")(hm2:X.mg "set" =none)(ha:PE X a ta)
  (hs:starEach [a] X.env=(false,eval a X.env) :: starEach [] X.env:=by rfl) (hpl:(backTo pos2 (starEach [] X.env)).any (·.1)=false:=by rfl)
  (hs2:starEach [.Call (.Name "set" p2) [a] [] pos2] X.env=(false,eval (.Call (.Name "set" p2) [a] [] pos2) X.env) :: starEach [] X.env:=by rfl) (pF:(backTo pos (starEach [] X.env)).any (·.1)=false:=by rfl)
  (hnil:backTo pos (starEach [] X.env)=[]:=by rfl) :
  PE X (.Call (.Name "sorted" p) [.Call (.Name "set" p2) [a] [] pos2] [] pos) (L5 X.K ta):=by
 intro pins s σ H Q I h
 refine wpAny_Call_Name_kw (gS I hg hm PyProof.Rows.boot_sorted ?_)
 refine PyProof.Rows.callWith_builtin1 ?_ hs2 pF
 rw[hs2]
 show wpAny _ _ (spliced ((false,eval (.Call (.Name "set" p2) [a] [] pos2) X.env) :: backTo pos (starEach [] X.env))) _ _ s
 refine Calls.spliced_cons (wpAny_Call_Name_kw (gS I hg2 hm2 PyProof.Rows.boot_set ?_))
 refine PyProof.Rows.callWith_type1 (eQ (b9 ha fz hs pos2 pins s σ H (λvs H1=>match vs with
  | [x]=>∃q,∃ys:List Nat,x= .ref q/\iV X.K H1 q (ys.map λ(k:Nat)=>V.int (k:Int))/\(∀k∈ys,k < 4)/\∀t,H1 t=none->Q (.ref t) (upd H1 t (.lst ((L4 (sK (λi=>ys.getD i 0) ys.length 0 0)).map λ(k:Nat)=>V.int (k:Int))))
  | _=>False) I h) λus s1 ⟨vs,H1,I1,r1,q1⟩=> ?_) hs hpl
 match vs,r1,q1 with
 | [x],r1,q1=>
  obtain⟨q,ys,rfl,hq,h4,fin⟩:=q1
  obtain⟨u,rfl,ru⟩:=r1.one
  cases ru
  obtain⟨its,rv,pl,hz⟩:=I1.list hq
  have hh:X.A.handled=none:=I1.ok.hd hc
  have hl:=rv.length
  rw[K4] at hl
  refine IW (w:=X.w) hh pl.isList (val:=λi=>ys.getD i 0) (λi v e=> ?_) λh' tk hM hk=> ?_
  ·rw[List.getElem?_toArray] at e
   have hi:i < ys.length:=by have:=(X5.mp e).1;omega
   have e1:(ys.map λ(k:Nat)=>V.int (k:Int))[i]? =some (.int ((ys.getD i 0:Nat):Int)):=by
    rw[Kj,KW,K5 hi];rfl
   obtain⟨u,hu,ru⟩:=rv.get e1
   rw[hu] at e;cases e
   exact⟨h4 _ (by rw[KW,K5 hi];exact Xy hi),ru⟩
  ·rw[hnil]
   refine Calls.spliced_nil ?_
   have Xi:its.toArray.size=ys.length:=by rw[Kw];exact hl.symm
   rw[Xi] at hM
   have hfr:=I1.fresh
   have I2:Inv X pins σ H1 {s1 with heap:=h',toks:=tk}:=I1.kept (t':=tk) λb u e=>hk b u (KU e) e
   refine IY hh hM λh2 tk2 a out c hge hat hints hk2=> ?_
   refine⟨.ref a,_,I2.laid (t':=tk2) (a:=a) (o:=.lst ((L4 (sK (λi=>ys.getD i 0) ys.length 0 0)).map λ(k:Nat)=>V.int (k:Int))) (λb u e=>hk2 b u (KU e) e) hge ⟨?_,out,c,?_,hat⟩,rfl,fin _ (I2.hok.fresh hge)⟩
   ·rw[K4];exact Kq (Xq _ _) (by decide)
   ·have:=IZ hints;rw[X7] at this;exact this
 | [],r1,q1=>exact False.elim q1
 | _ :: _ :: _,r1,q1=>exact False.elim q1
theorem FZ (hc:X.calm=true)(hg:Gl X "sorted")(hm:X.mg "sorted" =none)(hg2:Gl X "set")(hm2:X.mg "set" =none)(ha:DE X K Ew a fa)(hK:X.K=K:=by rfl)
  (hs:starEach [a] X.env=(false,eval a X.env) :: starEach [] X.env:=by rfl) (hpl:(backTo pos2 (starEach [] X.env)).any (·.1)=false:=by rfl)
  (hs2:starEach [.Call (.Name "set" p2) [a] [] pos2] X.env=(false,eval (.Call (.Name "set" p2) [a] [] pos2) X.env) :: starEach [] X.env:=by rfl) (pF:(backTo pos (starEach [] X.env)).any (·.1)=false:=by rfl)
  (hnil:backTo pos (starEach [] X.env)=[]:=by rfl) :
  DE X K Ew (.Call (.Name "sorted" p) [.Call (.Name "set" p2) [a] [] pos2] [] pos) (sd nc fa):=(FY hc hg hm hg2 hm2 ha hs hpl hs2 pF hnil).imp λσ H Q q=>by
 obtain⟨B,φ,Γ,r0,q⟩:=q
 refine⟨B,φ,Γ,r0,(q.bind r0).mono λu H1 s1 ⟨k,x,e1,v1,r1,_,q1⟩=> ?_⟩
 obtain⟨z,e,q⟩:=gL (kf:=λ_=> .fr []) q1
 cases x <;> simp only[nc] at e <;> try (cases e;done)
 split at e
 ·rename_i xs hn
  cases e
  obtain⟨ys,rfl,h4⟩:=L1 hn
  obtain⟨p,vs,rfl,h1,h2⟩:=bg (v1.toD r1.bs)
  have e2:=yU h2
  subst e2
  rw[hK]
  refine⟨p,ys,rfl,h1,h4,λt ht=>q _ _ (s1.trans (Same.upd ht)) (VR.fresh.mpr ?_)⟩
  rw[L3]
  refine aX.lst (aP _ (λ_=>rfl) _) aB ?_ (s1.free ht)
  generalize L4 (sK (λi=>ys.getD i 0) ys.length 0 0)=l
  exact yV l
 ·cases e
end
section
variable {X:Cx}
theorem Rl:jK X (compareOp .GtE) T4:=jK.Cv SJ λx y z e=>by
 cases x <;> cases y <;> simp only[T4] at e <;> cases e
 exact⟨_,_,rfl,rfl,rfl,λ_ _=>dD⟩
end
end L2
namespace Y
open PySem
end Y
namespace L2
open PySem PySem.Spec PyProof.Rows Y
open AutoSeq1 (wpAny_loadPart')
end L2
namespace Y
open PySem
theorem ql (i:Int):bL (.int i)=true:=rfl
theorem Oo:bL .none=true:=rfl
theorem Rm (b:Bool):bL (.bool b)=true:=rfl
theorem Oq (b:Str):bL (.str b)=true:=rfl
theorem qm (xs:List PyData):bL (.list xs)=false:=rfl
theorem eG (xs:List PyData):bL (.tuple xs)=aq xs:=rfl
theorem dZ {k:Kd}{d:PyData}(h:bL d=true):eR k d= .fr []:=by unfold eR;rw[J5 h]
theorem C3 {k:Kd}{d:PyData}(h:bL d=false):eR k d=k:=by unfold eR;rw[J6 (by rw[h];exact K3)]
theorem uy (k:Kd)(i:Int):eR k (.int i)= .fr []:=rfl
theorem Ro (k:Kd)(i:Bool):eR k (.bool i)= .fr []:=rfl
theorem Ot (k:Kd)(i:Str):eR k (.str i)= .fr []:=rfl
theorem Ou (k:Kd):eR k .none= .fr []:=rfl
theorem Ov (k:Kd)(xs:List PyData):eR k (.list xs)=k:=rfl
theorem Ow (k:Kd)(xs:List (PyData×PyData)):eR k (.dict xs)=k:=rfl
theorem ao {k:Kd}{xs:List PyData}(h:aq xs=true):eR k (.tuple xs)= .fr []:=dZ h
theorem c_ (l:List Int):aq (l.map PyData.int)=true:=aP _ (λ_=>rfl) l
theorem I0 {n:Nat}(l:List Int):lays n (l.map PyData.int)=true:=j0 _ (λ_=>by cases n <;> rfl) l
theorem L6 (i j:Int):ia (.int i) (.int j)=some (.int (i+j)):=rfl
theorem L7 (i j:Int):xo (.int i) (.int j)=some (.int (i - j)):=rfl
theorem L8 {i j:Int}(h:(-(2^64) < i/\i < 2^64)∨(-(2^64) < j/\j < 2^64)):xu (.int i) (.int j)=some (.int (i*j)):=J5 h
theorem I_ {i j:Int}(h:0 < j/\j < 2^64):jl (.int i) (.int j)=some (.int (i / j)):=J5 h
theorem L9 {i j:Int}(h:0 < j):iO (.int i) (.int j)=some (.int (i % j)):=J5 h
theorem L_ {i j:Int}(h:0<=j/\j<=1000000/\i.natAbs < 2^64):Fq (.int i) (.int j)=some (.int (i^j.toNat)):=J5 h
theorem Ox (i j:Int):Nn (.int i) (.int j)=some (.bool (decide (i < j))):=rfl
theorem Oy (i j:Int):QH (.int i) (.int j)=some (.bool (decide (i<=j))):=rfl
theorem Oz (i j:Int):R_ (.int i) (.int j)=some (.bool (decide (j < i))):=rfl
theorem Ma (i:Int):m8 (.int i)=some (.int (-i)):=rfl
theorem OA (i j:Int):Ci (.int i) (.int j)=some (.bool (i==j)):=rfl
theorem OB (i j:Int):Cj (.int i) (.int j)=some (.bool (!(i==j))):=rfl
theorem OC (x:PyData):S1 x .none=some (.bool (h_ x)):=rfl
theorem F0 (x:PyData):pj x .none=some (.bool (!h_ x)):=rfl
theorem Ja (xs:List PyData):jI [.list xs]=some (.int xs.length):=rfl
theorem Mb (xs:List PyData):jI [.tuple xs]=some (.int xs.length):=rfl
theorem Mc (xs:List PyData)(i:Int):dU (.list xs) (.int i)=jE xs i:=rfl
theorem OD (xs:List PyData)(i:Int):dU (.tuple xs) (.int i)=jE xs i:=rfl
theorem cW {α:Type}{xs:List α}{j:Nat}{v:α}(h:xs[j]? =some v):jE xs (j:Int)=some v:=by
 have hj:j < xs.length:=(X5.mp h).1
 have e:xq xs.length (j:Int)=some j:=by
  unfold xq
  rw[J5 (by omega),J5 (by omega)];simp
 unfold jE;rw[e];exact h
theorem OE {α:Type}{xs:List α}{i:Int}{v:α}(h0:0<=i)(h:xs[i.toNat]? =some v):jE xs i=some v:=by
 obtain⟨j,rfl⟩:=Yq h0
 exact cW (by simpa using h)
theorem PF {x y:PyData}(hx:lay 60 x=true)(hy:lay 60 y=true):Ci x y=some (.bool (PyData.eqv x y)):=by unfold Ci;rw[hx,hy];rfl
theorem To {x y:PyData}(hx:lay 60 x=true)(hy:lay 60 y=true):Cj x y=some (.bool (!PyData.eqv x y)):=by unfold Cj;rw[hx,hy];rfl
theorem qo {x:PyData}{ys:List PyData}(hx:lay 60 x=true)(hy:lays 60 ys=true):Lc x (.list ys)=some (.bool (dG ys x)):=by simp only[Lc,hx,hy,Xv,if_true]
theorem C4 {x:PyData}{ys:List PyData}(hx:lay 60 x=true)(hy:lays 60 ys=true):h9 x (.list ys)=some (.bool (!dG ys x)):=by simp only[h9,hx,hy,Xv,if_true]
theorem vp {x:PyData}{ys:List PyData}(hx:lay 60 x=true)(hy:lays 60 ys=true):h9 x (.tuple ys)=some (.bool (!dG ys x)):=by simp only[h9,hx,hy,Xv,if_true]
theorem pK {xs:List PyData}(h:aq xs=true):p6 [.list xs]=some (.list xs):=J5 h
theorem dh {xs:List PyData}(h:aq xs=true):ib [.list xs]=some (.tuple xs):=J5 h
theorem vq {xs:List PyData}(h:aq xs=true):Cm (.list xs)=some (.tuple xs.reverse):=J5 h
theorem C5 {n:Int}(h:-(2^62)<=n/\n < 2^62):Fv (.int n)=ah (.fr [],(List.range n.toNat).map λ(i:Nat)=>PyData.int (i:Int)):=J5 h
theorem F1 (l:List Int)(x:Int):dG (l.map PyData.int) (.int x)=decide (x∈l):=by
 unfold dG
 induction l with
 | nil=>rfl
 | cons y l ih=>
  rw[KZ,Y1,ih]
  have e:PyData.eqv (.int y) (.int x)=(y==x):=by simp[PyData.eqv]
  rw[e]
  by_cases h:y=x
  ·subst h;simp
  ·have h':¬ x=y:=λz=>h z.symm
   simp[h,h']
theorem bo {g:GF}{b:SF}{ds:List PyData}{Γ:bD}(P:Nat->bD->Prop)(h0:P 0 Γ)
  (hs:∀(i:Nat) (d:PyData) (Γ:bD),ds[i]? =some d->P i Γ->∃Γ1 Γ2,g (eR .base d) d Γ=some Γ1/\(b Γ1=ah (.nx Γ2)∨b Γ1=ah (.ct Γ2))/\P (i+1) Γ2) :
  ∃Γ',bj g b ds Γ=ah (.nx Γ')/\P ds.length Γ':=by
 induction ds generalizing Γ P with
 | nil=>exact⟨Γ,rfl,h0⟩
 | cons d ds ih=>
  obtain⟨Γ1,Γ2,h1,h2,h3⟩:=hs 0 d Γ rfl h0
  obtain⟨Γ',h4,h5⟩:=ih (Γ:=Γ2) (λi=>P (i+1)) h3 λi d' Γ' hd hp=>hs (i+1) d' Γ' (by simpa using hd) hp
  refine⟨Γ',?_,by simpa using h5⟩
  simp only[bj,h1,cw,ay]
  rcases h2 with h2 | h2 <;> (rw[h2];exact h4)
theorem cy {n i:Nat}{d:PyData}(h:((List.range n).map λ(i:Nat)=>PyData.int (i:Int))[i]? =some d):d= .int (i:Int)/\i < n:=by
 rw[Kj] at h
 by_cases hi:i < n
 ·rw[U4 hi] at h
  exact⟨(Option.some.inj h).symm,hi⟩
 ·rw[Xz (by simpa using hi)] at h
  cases h
theorem jX {fe:EF}{cap:bD}(ds:List PyData)(f:PyData->Kd×PyData)(h:∀d∈ds,fe (some (false,d) :: cap)=ah (f d)):fE gm fe cap ds=some (ds.map f):=by
 induction ds with
 | nil=>rfl
 | cons d ds ih=>
  have h1:=h d K8
  simp only[fE,gm,ah] at h1⊢
  rw[h1,ih λx hx=>h x (K9 _ hx)]
  rfl
theorem Ad {ft:TF}{fe:EF}{cap:bD}(ds:List PyData)(p:PyData->Bool)(f:PyData->Kd×PyData)(ht:∀d∈ds,ft (some (false,d) :: cap)=ah (p d))(h:∀d∈ds,p d=true->fe (some (false,d) :: cap)=ah (f d)):fE ft fe cap ds=some ((ds.filter p).map f):=by
 induction ds with
 | nil=>rfl
 | cons d ds ih=>
  have h0:=ht d K8
  have ih':=ih (λx hx=>ht x (K9 _ hx)) λx hx=>h x (K9 _ hx)
  simp only[fE,ah] at h0⊢
  rw[h0]
  cases hp:p d with
  | false=>simp only[ih',UQ,hp,U3,if_false]
  | true=>
   have h1:=h d K8 hp
   simp only[ah] at h1
   simp only[h1,ih',UQ,hp,if_true,KZ,U0]
theorem gM {α:Type}(l:List α)(f:α->PyData):iH (l.map λa=>(Kd.fr [],f a))=some (.fr []):=by
 induction l with
 | nil=>rfl
 | cons a l ih=>simp only[KZ,iH,ih]
end Y
namespace L2
open PySem PySem.Spec PyProof.Rows Y
structure Wp (P:Program)(w:World)(outer:List Env)(H:Hp)(h0:Heap)(H':Hp)(B h:Heap):Prop where
 hok:ul P w H' B
 keep:∀b o,h0.get? b=some o->H b=none->b∉frs outer->B.get? b=some o
 slot:∀b o,h0.get? b=some o->H b=none->b∈frs outer->∃sl,h.get? b=some {o with slots:=sl}
 free:∀b o,h0.get? b=some o->H b=none->H' b=none
 there:∀b o,h0.get? b=some o->b∉frs outer->∃o',B.get? b=some o'
 tups:∀b xs,H b=some (.tup xs)->H' b=some (.tup xs)
 pb:∀b o u,H b=some (.Kl o u)->H' b=some (.Kl o u)
 pY:∀b ps,H b=some (.Nr ps)->∃more,H' b=some (.Nr (ps++more))
theorem Wp.un {P:Program}{w:World}{outer:List Env}{H H':Hp}{h0 B h h':Heap}(T:Wp P w outer H h0 H' B h)(ff:∀b∈frs outer,H b=none)(nf:h.FunFrames B outer)(st:B.StaysIn h')(up:h.UpToSlots h'):Un (frs outer) [] H H' h0 h':=by
 have sl:∀b o,h0.get? b=some o->H b=none->b∈frs outer->∃sl,h'.get? b=some {o with slots:=sl}:=λb o e n hb=>by
  obtain⟨sl,e1⟩:=T.slot b o e n hb
  obtain⟨_,o2,e2,nd⟩:=nf.mem hb
  rw[e1] at e2
  cases e2
  obtain⟨sl',e3⟩:=up b _ e1 nd
  exact⟨sl',e3⟩
 refine⟨λb o e n hb _=>st _ _ (T.keep b o e n hb),λb o e n hb _=>sl b o e n hb,λb o e n _=>T.free b o e n,λb o e _=> ?_,T.tups,T.pb,T.pY⟩
 by_cases hb:b∈frs outer
 ·obtain⟨s,e1⟩:=sl b o e (ff b hb) hb
  exact⟨_,e1⟩
 ·obtain⟨o',e1⟩:=T.there b o e hb
  exact⟨o',st _ _ e1⟩
end L2
namespace Y
def nx (F:FF):FF:=λds=>match F ds with
 | some (.ok r)=>some (.ok r)
 | _=>none
end Y
namespace L2
open PySem PySem.Spec PyProof.Rows Y
end L2
namespace L2
open PySem PySem.Spec PyProof.Rows Y PySem.Calls Builtin Builtin.ObjectAttr Builtin.Getset_descriptor
def Tp (x D:Addr)(h:Heap):Prop:=∃ox,h.get? x=some ox/\ox.cls= .ref D
theorem Tp.ty {x D:Addr}{M:Model}{h:Heap}(p:Tp x D h):PySem.W.Looks M h (typeOf (.ref x)) (.ref D):=by
 obtain⟨ox,h1,h2⟩:=p
 exact h2 ▸ (PySem.W.Looks.ld h1).andThen .now
end L2
namespace Y
end Y
namespace L2
open PySem PySem.Spec PyProof.Rows Y
section
variable {X:Cx}{pins:List (Addr×Obj)}{σ:St}{H:Hp}{s:Shared}
abbrev Cx.held (X:Cx)(e:Value):Cx:={X with A:=X.A.mark (some e),calm:=false,xe:=λ_ _=>False}
theorem Inv.held (I:Inv X pins σ H s)(e:Value):Inv (X.held e) pins σ H s :=
 ⟨⟨I.ok.mod,I.ok.kind,I.ok.glob,I.ok.blt,I.ok.above,I.ok.inj,I.ok.has,I.ok.cab,λz=>(K3 z).elim,I.ok.frames,I.ok.stk,I.ok.R8,I.ok.bs,I.ok.Ic,I.ok.Fb,I.ok.Fc,I.ok.pc,I.ok.Nm⟩,I.os,I.bare,I.base,I.loc,I.cell,I.free,I.mH,I.pin,I.hok,I.len⟩
end
section
variable {es elts:List Expr}{env:Env}{pos:Pos}{k:Nat}
theorem Rp:starEach (.Tuple elts k pos :: es) env=(false,eval (.Tuple elts k pos) env) :: starEach es env:=by rfl
theorem cz {c:Const}:starEach (.Constant c k pos :: es) env=(false,eval (.Constant c k pos) env) :: starEach es env:=by rfl
theorem ai {x:Str}:starEach (.Name x pos :: es) env=(false,eval (.Name x pos) env) :: starEach es env:=by rfl
theorem gx {a b:Expr}:starEach (.Subscript a b pos :: es) env=(false,eval (.Subscript a b pos) env) :: starEach es env:=by rfl
end
end L2
namespace K32
open PySem Y
def me:SF :=
 (aC 0 (bz jl (eV 0) (eC (.int 2147483648))))
def mf:SF :=
 (au (jm (tE (bz T4 (eV 0) (bz Fq (eC (.int 10)) (eC (.int 12)))))
 (au (aC 0 (bz xo (bz jl (eV 0) (bz Fq (eC (.int 10)) (eC (.int 12)))) (eC (.int 1))))
 (au (bU (fK (bz iO (eV 1) (eC (.int 61)))) (cS 2)
 me)
 (ck (bz iO (eV 0) (eC (.int 2147483648))))))
 cA)
 (au (aC 3 (bz iO (bz xu (bz ia (bz ia (bz iO (eV 0) (eC (.int 1000003))) (bz xu (bz xu (eV 1) (eV 1)) (eC (.int 7919)))) (eV 1)) (eC (.int 48271))) (eC (.int 2147483629))))
 (au (aC 3 (bz iO (bz xu (eV 3) (eV 3)) (eC (.int 2147483587))))
 (ck (bz jl (bz iO (bz xu (eV 3) (bz ia (eV 3) (eC (.int 2)))) (eC (.int 2147483579))) (eC (.int 7)))))))
def bJ:FF:=eS 4 mf
def vt:SF :=
 (jm (tE (bz Cj (eV 2) (eV 3)))
 (jo 1 (jH [(eV 2),(eV 3)]))
 cA)
def vz:SF :=
 (bU (fK (eV 0)) (cS 3)
 vt)
def qp:SF :=
 (au (aC 1 (cY []))
 (au (bU (fK (eV 0)) (cS 2)
 vz)
 (ck (eV 1))))
def di:FF:=eS 4 qp
def f6:SF :=
 (au (jm (tE (bz Ci (bz iO (eV 0) (eC (.int 3))) (eC (.int 0))))
 (jo 2 (eV 3))
 cA)
 (aC 0 (bz jl (eV 0) (eC (.int 3)))))
def j8:SF :=
 (au (aC 2 (cY []))
 (au (bU (pk (aG di [(eV 1)])) (cS 3)
 f6)
 (ck (lq ib [(eV 2)]))))
def bA:FF:=eS 4 j8
def ik:SF :=
 (au (jm (tE (bz Nn (eV 1) (lq jI [(eV 0)])))
 (ck (dW dU (eV 0) (eV 1)))
 cA)
 (ck (eC (.int 0))))
def az:FF:=eS 2 ik
def eZ:SF :=
 (au (aC 5 (aG bJ [(aG az [(eV 0),(bz ia (eC (.int 2)) (eV 4))]),(bz ia (eC (.int 20)) (eV 4))]))
 (au (aC 6 (aG bA [(eV 5),(eV 1)]))
 (au (jm (tE (bz Ci (bz iO (bz jl (eV 5) (eC (.int 600000))) (eC (.int 3))) (eC (.int 1))))
 (aC 6 (Lf (eV 6) none (some (eC (.int 1)))))
 cA)
 (jm (uJ (tE (bz h9 (eV 6) (eV 3))) (tE (bz Nn (lq jI [(eV 3)]) (eV 2))))
 (jo 3 (eV 6))
 cA))))
def nk:SF :=
 (au (aC 3 (cY []))
 (au (jm (tE (bz Ci (bz iO (aG az [(eV 0),(eC (.int 1))]) (eC (.int 2))) (eC (.int 1))))
 (jo 3 (jH []))
 cA)
 (au (bU (fK (eV 2)) (cS 4)
 eZ)
 (ck (eV 3)))))
def d_:FF:=eS 7 nk
def iY:SF :=
 (au (aC 1 (bz iO (aG az [(eV 0),(eC (.int 5))]) (bz Fq (eC (.int 10)) (eC (.int 60)))))
 (au (aC 2 (bz ia (bz ia (eV 1) (eC (.int 1))) (bz iO (aG az [(eV 0),(eC (.int 6))]) (eC (.int 5)))))
 (au (jm (tE (bz Ci (bz iO (aG az [(eV 0),(eC (.int 7))]) (eC (.int 2))) (eC (.int 1))))
 (aC 2 (bz xo (sd m8 (eC (.int 1))) (bz iO (aG az [(eV 0),(eC (.int 6))]) (bz Fq (eC (.int 10)) (eC (.int 59))))))
 cA)
 (ck (cY [(bz jl (eV 1) (eC (.int 10))),(bz xo (bz jl (eV 2) (eC (.int 10))) (eC (.int 1))),(bz ia (eC (.int 7)) (bz jl (eV 1) (eC (.int 10))))])))))
def bB:FF:=eS 3 iY
def bV:EF :=
 (dW dU (eV 1) (bz iO (bz iO (bz jl (eV 2) (dW dU (cY [(eC (.int 1)),(eC (.int 4)),(eC (.int 16)),(eC (.int 64))]) (eV 0))) (eC (.int 4))) (eC (.int 3))))
def da:SF :=
 (au (aC 6 (aG bJ [(aG az [(eV 0),(bz ia (eC (.int 8)) (eV 5))]),(bz ia (eC (.int 300)) (eV 5))]))
 (au (aC 7 (lq ib [(cI (fK (eV 1)) [3,6] gm bV)]))
 (jm (tE (bz h9 (eV 7) (eV 4)))
 (jo 4 (eV 7))
 cA)))
def kS:SF :=
 (au (aC 3 (aG bB [(eV 0)]))
 (au (aC 4 (cY []))
 (au (bU (fK (eV 2)) (cS 5)
 da)
 (ck (eV 4)))))
def cJ:FF:=eS 8 kS
def nq:SF :=
 (au (aC 1 (bz ia (eC (.int 2)) (bz iO (aG az [(eV 0),(eC (.int 0))]) (eC (.int 3)))))
 (au (aC 2 (dW dU (cY [(eC (.int 3)),(eC (.int 3)),(eC (.int 2))]) (bz xo (eV 1) (eC (.int 2)))))
 (au (aC 3 (bz iO (bz jl (aG az [(eV 0),(eC (.int 0))]) (eC (.int 3))) (dW dU (cY [(eC (.int 4)),(eC (.int 3)),(eC (.int 3))]) (bz xo (eV 1) (eC (.int 2))))))
 (au (aC 4 (aG d_ [(eV 0),(eV 1),(eV 2)]))
 (au (aC 5 (aG cJ [(eV 0),(eV 1),(bz ia (eC (.int 1)) (bz iO (bz jl (aG az [(eV 0),(eC (.int 7))]) (eC (.int 2))) (eC (.int 6))))]))
 (ck (jH [(eV 1),(eV 4),(eV 3),(eV 5)])))))))
def cm:FF:=eS 6 nq
def iZ:SF :=
 (jo 5 (bz ia (eV 6) (jH [(eV 7)])))
def e_:SF :=
 (bU (pk (eV 0)) (cS 7)
 iZ)
def gE:SF :=
 (au (aC 5 (cY []))
 (au (bU (pk (eV 3)) (cS 6)
 e_)
 (xw 3 5)))
def fm:SF :=
 (jo 8 (jH [(eV 9),(eV 6)]))
def gF:SF :=
 (bU (pk (eV 3)) (cS 6)
 fm)
def nu:SF :=
 (au (aC 3 (cY [(jH [])]))
 (au (bU (fK (eV 1)) (cS 4)
 gE)
 (au (aC 8 (cY []))
 (au (bU (pk (eV 2)) (cS 9)
 gF)
 (ck (eV 8))))))
def dk:FF:=eS 10 nu
def il:EF :=
 (dW dU (eV 1) (eV 0))
def cn:SF :=
 (jm (tE (bz R_ (dW dU (eV 2) (eV 7)) (eV 6)))
 (au (Ir 2 (eV 7) (eV 6))
 (aC 3 (eC (.bool true))))
 cA)
def fQ:SF :=
 (au (aC 6 (lq yQ [(cI (pk (eV 5)) [2] gm il)]))
 (bU (pk (eV 5)) (cS 7)
 cn))
def fR:SF :=
 (au (aC 3 (eC (.bool false)))
 (bU (zY (eV 1)) (mI [4,5])
 fQ))
def j9:TF :=
 (tE (eV 3))
def j_:TF :=
 (tE (bz Ci (dW dU (eV 2) (eV 0)) (eV 1)))
def ka:EF :=
 (eV 0)
def dI:SF :=
 (jm (tE (bz Ci (dW dU (eV 2) (eV 9)) (eV 9)))
 (jo 8 (cI (fK (eV 0)) [9,2] j_ ka))
 cA)
def mh:SF :=
 (au (aC 2 (sd vf (eV 0)))
 (au (aC 3 (eC (.bool true)))
 (au (pr sI j9
 fR)
 (au (aC 8 (cY []))
 (au (bU (fK (eV 0)) (cS 9)
 dI)
 (ck (eV 8)))))))
def cD:FF:=eS 10 mh
def dJ:SF :=
 (jm (uJ (tE (bz Cj (eV 4) (eV 2))) (tE (bz h9 (jH [(eV 4),(eV 2)]) (eV 1))))
 (jo 3 (eV 4))
 cA)
def kb:SF :=
 (au (aC 3 (cY []))
 (au (bU (fK (eV 0)) (cS 4)
 dJ)
 (ck (lq ib [(eV 3)]))))
def bb:FF:=eS 5 kb
def i6:EF :=
 (Cq (jH [(eV 0),(eC (.int 0))]) (eC (.bool true)))
def i7:SF :=
 (He 8 (dW dU (eV 3) (eV 9)))
def i8:SF :=
 (au (aC 8 (lq uq [(dW dU (eV 3) (eV 7))]))
 (au (bU (pk (aG bb [(eV 2),(eV 5),(eV 7)])) (cS 9)
 i7)
 (au (yw 8 (jH [(eV 7),(bz ia (eV 4) (eC (.int 1)))]) (eC (.bool true)))
 (jo 6 (eV 8)))))
def i9:SF :=
 (au (aC 6 (cY []))
 (au (bU (fK (eV 2)) (cS 7)
 i8)
 (xw 3 6)))
def gG:SF :=
 (jm (tE (bz Cp (jH [(eV 7),(eC (.int 0))]) (dW dU (eV 3) (eV 1))))
 (Ir 10 (eV 7) (dW dU (dW dU (eV 0) (eC (.int 0))) (eV 7)))
 cA)
def gH:SF :=
 (jm (tE (bz Cp (jH [(eV 7),(bz ia (eV 4) (eC (.int 1)))]) (dW dU (eV 3) (eV 1))))
 (Ir 12 (eV 7) (aG bb [(eV 2),(eV 5),(eV 7)]))
 cA)
def i_:SF :=
 (au (aC 12 (NR (cY [(eC .none)]) (eV 2)))
 (au (bU (fK (eV 2)) (cS 7)
 gH)
 (jo 11 (lq ib [(eV 12)]))))
def ny:SF :=
 (au (aC 2 (lq jI [(dW dU (eV 0) (eC (.int 0)))]))
 (au (aC 3 (cI (fK (eV 2)) [] gm i6))
 (au (bU (zx (dW dU (eV 0) (eC (.int 1)))) (mI [4,5])
 i9)
 (au (aC 10 (NR (cY [(eC .none)]) (eV 2)))
 (au (aC 11 (cY []))
 (au (bU (fK (eV 2)) (cS 7)
 gG)
 (au (bU (zx (dW dU (eV 0) (eC (.int 1)))) (mI [4,5])
 i_)
 (ck (jH [(eV 1),(lq ib [(eV 10)]),(lq ib [(eV 11)])])))))))))
def cK:FF:=eS 13 ny
def gN:SF :=
 (IG 2 (aG cK [(eV 4),(eV 5)]) 3)
def db:SF :=
 (bU (fK (eV 0)) (cS 5)
 gN)
def kU:SF :=
 (au (aC 2 uM)
 (au (bU (ma (eV 1)) (mI [3,4])
 db)
 (ck (eV 2))))
def ca:FF:=eS 6 kU
def kB:TF :=
 (uJ (tE (bz Cj (eV 0) (eV 1))) (tE (bz h9 (jH [(eV 0),(eV 1)]) (eV 2))))
def nA:EF :=
 (eV 0)
def rj:SF :=
 (ck (lq ib [(cI (fK (eV 0)) [2,1] kB nA)]))
def f7:FF:=eS 3 rj
def fG:EF :=
 (S0 (tE (bz Lc (eV 0) (eV 1))) (aG f7 [(eV 2),(eV 3),(eV 0)]) (eC .none))
def jx:SF :=
 (ck (lq ib [(cI (fK (eV 0)) [2,0,1] gm fG)]))
def bE:FF:=eS 3 jx
def fH:SF :=
 (jm (tE (bz pj (eV 3) (eC .none)))
 (Fy 2 (eV 3))
 cA)
def jy:SF :=
 (au (aC 2 (lq p6 [(eV 0)]))
 (au (bU (pk (eV 1)) (cS 3)
 fH)
 (ck (sd nc (eV 2)))))
def bF:FF:=eS 4 jy
def vA:SF :=
 (au (aC 7 (aG bE [(eV 3),(eV 6),(eV 4)]))
 (au (jo 5 (eV 7))
 (aC 4 (aG bF [(eV 4),(eV 7)]))))
def qq:EF :=
 (S0 (tE (bz Lc (eV 0) (eV 1))) (dW dU (eV 2) (eV 0)) (eC .none))
def F2:SF :=
 (au (aC 2 (dW dU (eV 0) (eC (.int 0))))
 (au (aC 3 (lq jI [(eV 2)]))
 (au (aC 4 (cY [(eV 1)]))
 (au (aC 5 (cY []))
 (au (bU (Lg (dW dU (eV 0) (eC (.int 1)))) (cS 6)
 vA)
 (au (aC 8 (cI (fK (eV 3)) [4,2] gm qq))
 (ck (jH [(eV 1),(lq ib [(eV 8)]),(sd Cm (eV 5))]))))))))
def kX:FF:=eS 9 F2
def mi:EF :=
 (aG kX [(eV 1),(eV 0)])
def pL:SF :=
 (ck (cI (fK (eV 0)) [1] gm mi))
def eH:FF:=eS 2 pL
def iP:EF :=
 (aG eH [(eV 1),(eV 0)])
def kc:SF :=
 (ck (cI (pk (eV 1)) [0] gm iP))
def bN:FF:=eS 2 kc
def kg:SF :=
 (au (aC 4 (dW zw (eV 0) (eV 3)))
 (au (jo 2 (jH [(dW dU (eV 4) (eC (.int 0))),(eV 3)]))
 (aC 3 (dW dU (eV 4) (eC (.int 1))))))
def gU:TF :=
 (tE (bz pj (dW zw (eV 0) (eV 3)) (eC .none)))
def qr:SF :=
 (au (jm (tE (bz fZ (eV 1) (eV 0)))
 (ck (eC .none))
 cA)
 (au (aC 2 (cY []))
 (au (xw 3 1)
 (au (pr sI gU
 kg)
 (ck (sd CV (eV 2)))))))
def im:FF:=eS 5 qr
def kY:SF :=
 (aC 2 (bz xu (eV 2) (lq jI [(eV 0)])))
def nB:SF :=
 (au (aC 2 (eC (.int 1)))
 (au (bU (fK (eV 1)) (cS 3)
 kY)
 (ck (eV 2))))
def cL:FF:=eS 4 nB
def nC:SF :=
 (ck (bz xu (lq jI [(eV 2)]) (aG cL [(eV 0),(eV 1)])))
def cM:FF:=eS 3 nC
def pM:SF :=
 (au (jo 3 (dW dU (eV 0) (bz iO (eV 4) (lq jI [(eV 0)]))))
 (aC 4 (bz jl (eV 4) (lq jI [(eV 0)]))))
def vB:SF :=
 (au (aC 3 (cY []))
 (au (xw 4 2)
 (au (bU (fK (eV 1)) (cS 5)
 pM)
 (ck (sd Cm (eV 3))))))
def ip:FF:=eS 6 vB
def vC:SF :=
 (au (aC 4 (aG cL [(eV 0),(eV 1)]))
 (ck (jH [(dW dU (eV 2) (bz jl (eV 3) (eV 4))),(aG ip [(eV 0),(eV 1),(bz iO (eV 3) (eV 4))])])))
def iq:FF:=eS 5 vC
def jN:EF :=
 (aG iq [(eV 1),(eV 2),(eV 3),(eV 0)])
def pN:SF :=
 (au (aC 3 (aG cM [(eV 0),(eV 1),(eV 2)]))
 (au (jm (tE (bz R_ (eV 3) (eC (.int 3000))))
 Ld
 cA)
 (ck (cI (fK (eV 3)) [0,1,2] gm jN))))
def eI:FF:=eS 4 pN
def eJ:EF :=
 (jH [(eV 1),(eV 0)])
def br:SF :=
 (jm (tE (bz fZ (eV 5) (eV 2)))
 (au (uN 2 (eV 5) (eC (.bool true)))
 (Fy 3 (cI (pk (dW zw (eV 1) (eV 5))) [4] gm eJ)))
 cA)
def dm:SF :=
 (au (aC 3 (cY []))
 (au (bU (ma (eV 0)) (mI [4,5])
 br)
 cA))
def aT:=runIO 6 3 dm
def cN:SF :=
 (jm (tE (bz fZ (eV 9) (eV 3)))
 (au (yw 3 (eV 9) (jH [(eV 8),(eV 7)]))
 (jo 6 (eV 9)))
 cA)
def fq:SF :=
 (Hy 4 aT (dW dU (eV 0) (eV 7)) (eV 1) (mI [8,9])
 cN)
def gI:SF :=
 (au (aC 6 (cY []))
 (au (bU (pk (eV 5)) (cS 7)
 fq)
 (xw 5 6)))
def ja:TF :=
 (tE (bz R_ (lq jI [(eV 5)]) (eC (.int 0))))
def nD:SF :=
 (au (aC 3 (Cq (eV 2) (eC .none)))
 (au (aC 4 uM)
 (au (aC 5 (cY [(eV 2)]))
 (au (pr sI ja
 gI)
 (ck (eV 3))))))
def ee:FF:=eS 10 nD
def iQ:SF :=
 (IG 1 (eV 4) 2)
def dL:SF :=
 (bU (pk (eV 3)) (cS 4)
 iQ)
def kh:SF :=
 (au (aC 1 uM)
 (au (bU (ma (eV 0)) (mI [2,3])
 dL)
 (ck (eV 1))))
def cp:FF:=eS 5 kh
def jb:SF :=
 (au (aC 6 (aG bN [(eV 0),(aG eI [(eV 1),(eV 2),(eV 3)])]))
 (ck (aG im [(aG ee [(eV 6),(aG cp [(eV 6)]),(eV 4)]),(eV 5)])))
def bd:FF:=eS 7 jb
def mj:SF :=
 (ck (La (Ck "int" (eV 0)) (Lb (Ck "bool" (eV 0)))))
def bt:FF:=eS 1 mj
def kZ:EF :=
 (bz Ci (dW dU (dW dU (eV 1) (eC (.int 0))) (eV 0)) (dW dU (dW dU (eV 2) (eC (.int 0))) (eV 0)))
def gJ:SF :=
 (aC 8 (La (eV 8) (dW dU (eV 3) (eV 9))))
def jc:SF :=
 (au (aC 7 (aG bb [(eV 2),(dW dU (dW dU (eV 0) (eC (.int 1))) (eV 4)),(eV 6)]))
 (au (aC 8 (La (dW dU (eV 3) (eV 6)) (bz Ci (eV 7) (aG bb [(eV 2),(dW dU (dW dU (eV 1) (eC (.int 1))) (eV 4)),(eV 6)]))))
 (au (bU (pk (eV 7)) (cS 9)
 gJ)
 (jo 5 (eV 8)))))
def k6:SF :=
 (au (aC 5 (cY []))
 (au (bU (fK (eV 2)) (cS 6)
 jc)
 (xw 3 5)))
def nE:SF :=
 (au (aC 2 (lq jI [(dW dU (eV 0) (eC (.int 0)))]))
 (au (aC 3 (cI (fK (eV 2)) [0,1] gm kZ))
 (au (bU (fK (lq jI [(dW dU (eV 0) (eC (.int 1)))])) (cS 4)
 k6)
 (ck (eV 3)))))
def cq:FF:=eS 10 nE
def f9:SF :=
 (au (jm (sH (iJ (tE (Ck "tuple" (eV 5)))) (sH (tE (bz Cj (lq jI [(eV 5)]) (eC (.int 2)))) (sH (iJ (tE (aG bt [(dW dU (eV 5) (eC (.int 0)))]))) (iJ (tE (aG bt [(dW dU (eV 5) (eC (.int 1)))]))))))
 (ck (eC .none))
 cA)
 (au (jm (sH (iJ (tE (q8 QH Nn (eC (.int 0)) (dW dU (eV 5) (eC (.int 0))) (eV 1)))) (iJ (tE (q8 QH Nn (eC (.int 0)) (dW dU (eV 5) (eC (.int 1))) (lq jI [(eV 0)])))))
 (ck (eC .none))
 cA)
 (au (jm (iJ (tE (dW dU (aG cq [(dW dU (eV 0) (dW dU (eV 4) (sd m8 (eC (.int 1))))),(dW dU (eV 0) (dW dU (eV 5) (eC (.int 1))))]) (dW dU (eV 5) (eC (.int 0))))))
 (ck (eC .none))
 cA)
 (jo 4 (dW dU (eV 5) (eC (.int 1)))))))
def pO:SF :=
 (au (jm (iJ (tE (Ck "list" (eV 3))))
 (ck (eC .none))
 cA)
 (au (aC 4 (cY [(eV 2)]))
 (au (bU (pk (eV 3)) (cS 5)
 f9)
 (ck (eV 4)))))
def eK:FF:=eS 6 pO
def qt:SF :=
 (au (aC 10 (aG bd [(eV 1),(dW dU (eV 8) (eC (.int 0))),(eV 3),(dW dU (eV 8) (eC (.int 1))),(eV 7),(eV 7)]))
 (au (jm (tE (bz Cj (eV 10) (cY [])))
 (ck (eC (.bool false)))
 cA)
 (jo 10 (jH [(eC (.int 0)),(eV 7)]))))
def oQ:TF :=
 (uJ (tE (bz Lc (eV 1) (eV 0))) (tE (bz Lc (eV 2) (eV 0))))
def qu:EF :=
 (eV 0)
def oR:SF :=
 (au (aC 12 (aG bd [(eV 1),(dW dU (eV 8) (eC (.int 0))),(eV 3),(dW dU (eV 8) (eC (.int 1))),(eV 7),(eV 11)]))
 (au (aC 13 (bz Cj (cI (pk (eV 6)) [7,11] oQ qu) (cY [])))
 (au (jm (iJ (tE (eV 13)))
 (au (jm (tE (bz pj (eV 12) (eC .none)))
 (ck (eC (.bool false)))
 cA)
 NS)
 cA)
 (au (aC 14 (aG eK [(eV 5),(eV 1),(eV 7),(eV 12)]))
 (jm (sH (tE (bz S1 (eV 14) (eC .none))) (tE (bz Cj (dW dU (eV 14) (sd m8 (eC (.int 1)))) (eV 11))))
 (ck (eC (.bool false)))
 cA)))))
def Md:SF :=
 (au (Le (mI [1,2,3,4]) (aG cm [(eV 0)]))
 (au (aC 5 (aG dk [(eV 2),(eV 3),(eV 4)]))
 (au (aC 6 (aG cD [(lq jI [(eV 5)]),(aG ca [(eV 1),(eV 5)])]))
 (au (aC 7 (bz iO (aG bJ [(aG az [(eV 0),(eC (.int 4))]),(eC (.int 4))]) (lq jI [(eV 5)])))
 (au (aC 8 (cY [(lq p6 [(eV 2)]),(lq p6 [(eV 4)])]))
 (au (bU (fK (eC (.int 2))) (cS 9)
 qt)
 (au (bU (pk (bz ia (Lf (dW dU (eV 6) (eC (.int 0))) (some (sd m8 (eC (.int 3)))) none) (Lf (dW dU (eV 6) (sd m8 (eC (.int 1)))) (some (sd m8 (eC (.int 3)))) none))) (cS 11)
 oR)
 (ck (bz Ci (eV 8) (cY [(eV 2),(eV 4)]))))))))))
def mK:FF:=eS 15 Md
end K32
namespace K32
open PySem L2 Y
def top (i:Nat):Stmt:=PySem.Challenge.pw_losspact_k32_rows_between.main.body.getD i (.Pass ⟨0,0,0,0⟩)
abbrev gZ:Stmt:=top 5
theorem jO:aL ["things","length","many","place"] ["things","length"] (ag gZ):=⟨rfl,rfl,rfl,by decide+kernel,rfl,by decide+kernel,by decide+kernel⟩
abbrev lF:Stmt:=top 6
theorem lG:aL ["things","length","number","row","rest","place"] ["things","length","number"] (ag lF):=⟨rfl,rfl,rfl,by decide+kernel,rfl,by decide+kernel,by decide+kernel⟩
abbrev g5:Stmt:=top 7
theorem Ae:aL ["road","rounds","starts"] ["road","rounds","starts"] (ag g5):=⟨rfl,rfl,rfl,by decide+kernel,rfl,by decide+kernel,by decide+kernel⟩
abbrev lH:Stmt:=top 8
theorem yW:aL ["road","rounds","starts","number","many"] ["road","rounds","starts","number"] (ag lH):=⟨rfl,rfl,rfl,by decide+kernel,rfl,by decide+kernel,by decide+kernel⟩
abbrev fS:Stmt:=top 9
theorem su:aL ["road","rounds","starts","many"] ["road","rounds","starts"] (ag fS):=⟨rfl,rfl,rfl,by decide+kernel,rfl,by decide+kernel,by decide+kernel⟩
abbrev g6:Stmt:=top 11
theorem F3:aL ["hands","weather","hand"] ["hands","weather","hand"] (ag g6):=⟨rfl,rfl,rfl,by decide+kernel,rfl,by decide+kernel,by decide+kernel⟩
abbrev nF:Stmt:=top 12
theorem jP:aL ["run","hand","values","hands","heard","came","weather","came_here","seen_values"] ["run","hand"] (ag nF):=⟨rfl,rfl,rfl,by decide+kernel,rfl,by decide+kernel,by decide+kernel⟩
abbrev bW:Stmt:=top 13
theorem rl:aL ["hands","weather","heard"] ["hands","weather","heard"] (ag bW):=⟨rfl,rfl,rfl,by decide+kernel,rfl,by decide+kernel,by decide+kernel⟩
abbrev dc:Stmt:=top 14
theorem iR:aL ["heard","came_here","earlier","starts"] ["heard","came_here"] (ag dc):=⟨rfl,rfl,rfl,by decide+kernel,rfl,by decide+kernel,by decide+kernel⟩
abbrev fu:Stmt:=top 16
theorem nG:aL ["hands","road","rounds","starts","one","other","seen"] ["hands","road","rounds","starts","one","other"] (ag fu):=⟨rfl,rfl,rfl,by decide+kernel,rfl,by decide+kernel,by decide+kernel⟩
abbrev cr:Stmt:=top 17
theorem sL:aL ["hands","runs"] ["hands","runs"] (ag cr):=⟨rfl,rfl,rfl,by decide+kernel,rfl,by decide+kernel,by decide+kernel⟩
abbrev fU:Stmt:=top 18
theorem C6:aL ["hands","run"] ["hands","run"] (ag fU):=⟨rfl,rfl,rfl,by decide+kernel,rfl,by decide+kernel,by decide+kernel⟩
abbrev dM:Stmt:=top 19
theorem eT:aL ["seen","sharing","number","views","one_view"] ["seen"] (ag dM):=⟨rfl,rfl,rfl,by decide+kernel,rfl,by decide+kernel,by decide+kernel⟩
abbrev g7:Stmt:=top 20
theorem cE:aL ["seen","sharing","first","ways","walked","wave","further","ahead","hand","number"] ["seen","sharing","first"] (ag g7):=⟨rfl,rfl,rfl,by decide+kernel,rfl,by decide+kernel,by decide+kernel⟩
abbrev ba:Stmt:=top 21
theorem cX:aL ["views","sharing","walked","steps","hand","one_view"] ["views","sharing","walked"] (ag ba):=⟨rfl,rfl,rfl,by decide+kernel,rfl,by decide+kernel,by decide+kernel⟩
abbrev lI:Stmt:=top 22
theorem lJ:aL ["ways","goal","steps","number","way"] ["ways","goal"] (ag lI):=⟨rfl,rfl,rfl,by decide+kernel,rfl,by decide+kernel,by decide+kernel⟩
abbrev dN:Stmt:=top 24
theorem sM:aL ["_law_script","_law_k"] ["_law_script","_law_k"] (ag dN):=⟨rfl,rfl,rfl,by decide+kernel,rfl,by decide+kernel,by decide+kernel⟩
abbrev iS:Stmt:=top 25
theorem g8:aL ["_law_cell","_law_k","_law_turn","_law_number"] ["_law_cell","_law_k"] (ag iS):=⟨rfl,rfl,rfl,by decide+kernel,rfl,by decide+kernel,by decide+kernel⟩
abbrev f_:Stmt:=top 26
theorem xB:aL ["_law_found"] ["_law_found"] (ag f_):=⟨rfl,rfl,rfl,by decide+kernel,rfl,by decide+kernel,by decide+kernel⟩
abbrev gc:Stmt:=top 27
theorem jd:aL ["_law_hands","_law_found","_law_start","_law_goal"] ["_law_hands"] (ag gc):=⟨rfl,rfl,rfl,by decide+kernel,rfl,by decide+kernel,by decide+kernel⟩
abbrev dO:Stmt:=top 28
theorem gO:aL ["_law_number","_law_hands","_law_lost","_law_pair"] ["_law_number","_law_hands"] (ag dO):=⟨rfl,rfl,rfl,by decide+kernel,rfl,by decide+kernel,by decide+kernel⟩
abbrev g9:Stmt:=top 29
theorem gg:aL ["_law_script","_law_hands","_law_many","_law_road_here","_law_k","_law_drawn","_law_weather_here"] ["_law_script","_law_hands","_law_many"] (ag g9):=⟨rfl,rfl,rfl,by decide+kernel,rfl,by decide+kernel,by decide+kernel⟩
abbrev fx:Stmt:=top 30
theorem iu:aL ["_law_script","_law_one","_law_other"] ["_law_script"] (ag fx):=⟨rfl,rfl,rfl,by decide+kernel,rfl,by decide+kernel,by decide+kernel⟩
abbrev cO:Stmt:=top 31
theorem dP:aL ["_law_script","_law_hands","_law_many","_law_values_here","_law_starts_here","_law_k","_law_number","_law_start"] ["_law_script","_law_hands","_law_many"] (ag cO):=⟨rfl,rfl,rfl,by decide+kernel,rfl,by decide+kernel,by decide+kernel⟩
abbrev g_:Stmt:=top 32
theorem gh:aL ["_law_script","_law_hands","_law_many","_law_rounds","_law_road_here","_law_starts_here"] ["_law_script"] (ag g_):=⟨rfl,rfl,rfl,by decide+kernel,rfl,by decide+kernel,by decide+kernel⟩
abbrev hJ:Stmt:=top 33
theorem cb:aL ["_law_road_here","_law_rounds","_law_starts_here","_law_rows","_law_k","_law_longer","_law_row_here","_law_weather_here","_law_found","_law_start"] ["_law_road_here","_law_rounds","_law_starts_here"] (ag hJ):=⟨rfl,rfl,rfl,by decide+kernel,rfl,by decide+kernel,by decide+kernel⟩
abbrev dQ:Stmt:=top 34
theorem jz:aL ["_law_hands","_law_weather_here","_law_hand","_law_found","_law_other"] ["_law_hands","_law_weather_here","_law_hand"] (ag dQ):=⟨rfl,rfl,rfl,by decide+kernel,rfl,by decide+kernel,by decide+kernel⟩
abbrev eA:Stmt:=top 35
theorem aU:aL ["_law_run","_law_hand","_law_hands","_law_known","_law_k","_law_weather_here","_law_after","_law_other","_law_some","_law_start","_law_values_here","_law_came","_law_row_here"] ["_law_run","_law_hand"] (ag eA):=⟨rfl,rfl,rfl,by decide+kernel,rfl,by decide+kernel,by decide+kernel⟩
abbrev fy:Stmt:=top 36
theorem fV:aL ["_law_hands","_law_runs_here","_law_groups_here","_law_number","_law_run","_law_hand"] ["_law_hands","_law_runs_here"] (ag fy):=⟨rfl,rfl,rfl,by decide+kernel,rfl,by decide+kernel,by decide+kernel⟩
abbrev cc:Stmt:=top 37
theorem bC:aL ["_law_many","_law_groups_here","_law_names","_law_busy","_law_seen","_law_group","_law_least","_law_number","_law_found","_law_name"] ["_law_many","_law_groups_here"] (ag cc):=⟨rfl,rfl,rfl,by decide+kernel,rfl,by decide+kernel,by decide+kernel⟩
abbrev eB:Stmt:=top 38
theorem bO:aL ["_law_one","_law_other","_law_hands","_law_same_here","_law_k","_law_after","_law_hand","_law_some","_law_held","_law_start"] ["_law_one","_law_other"] (ag eB):=⟨rfl,rfl,rfl,by decide+kernel,rfl,by decide+kernel,by decide+kernel⟩
abbrev iT:Stmt:=top 39
theorem nH:aL ["_law_runs_here","_law_hands","_law_first","_law_steps","_law_rows","_law_step"] ["_law_runs_here","_law_hands","_law_first","_law_steps"] (ag iT):=⟨rfl,rfl,rfl,by decide+kernel,rfl,by decide+kernel,by decide+kernel⟩
abbrev nJ:Stmt:=top 40
theorem gV:aL ["_law_script","_law_hands","_law_road_here","_law_rounds","_law_starts_here","_law_runs_here","_law_lots","_law_one","_law_handed","_law_k","_law_still","_law_other","_law_found","_law_joined","_law_rows"] ["_law_script"] (ag nJ):=⟨rfl,rfl,rfl,by decide+kernel,rfl,by decide+kernel,by decide+kernel⟩
structure Wq where
 dq:Addr
 nK:FuncData
 iy:Addr
 vD:FuncData
 du:Addr
 nL:FuncData
 iz:Addr
 vE:FuncData
 eM:Addr
 pP:FuncData
 gj:Addr
 rm:FuncData
 mm:Addr
 F4:FuncData
 bG:Addr
 jA:FuncData
 bH:Addr
 jB:FuncData
 ce:Addr
 k8:FuncData
 bP:Addr
 ki:FuncData
 eN:Addr
 pQ:FuncData
 bQ:Addr
 kj:FuncData
 dv:Addr
 nM:FuncData
 aV:Addr
 fW:FuncData
 iA:Addr
 vF:FuncData
 bR:Addr
 kl:FuncData
 eO:Addr
 pR:FuncData
 cF:Addr
 mn:FuncData
 cG:Addr
 mq:FuncData
 bS:Addr
 km:FuncData
 dw:Addr
 nN:FuncData
 cf:Addr
 k9:FuncData
 cg:Addr
 k_:FuncData
 dy:Addr
 nO:FuncData
 dz:Addr
 nP:FuncData
 bT:Addr
 kn:FuncData
 dA:Addr
 nQ:FuncData
 ci:Addr
 lf:FuncData
 cH:Addr
 mr:FuncData
 dB:Addr
 nU:FuncData
 eP:Addr
 pS:FuncData
 sv:Addr
 Me:FuncData
 kC:Nat
structure Tx (K:Frag)(mg:Str->Option Value)(a:Wq):Prop where
 cL:ll K "many_rows" "many_rows" gZ a.dq a.nK
 sw:mg "many_rows" =some (.ref a.dq)
 jt:keepIn K (.ref a.dq)=true
 kD:Binds K a.nK ["things","length"] []
 ip:ll K "row_at" "row_at" lF a.iy a.vD
 Mf:mg "row_at" =some (.ref a.iy)
 qv:keepIn K (.ref a.iy)=true
 vG:Binds K a.vD ["things","length","number"] []
 cM:ll K "many_runs" "many_runs" g5 a.du a.nL
 C7:mg "many_runs" =some (.ref a.du)
 kE:keepIn K (.ref a.du)=true
 nV:Binds K a.nL ["road","rounds","starts"] []
 iq:ll K "run_at" "run_at" lH a.iz a.vE
 Mg:mg "run_at" =some (.ref a.iz)
 qw:keepIn K (.ref a.iz)=true
 vH:Binds K a.vE ["road","rounds","starts","number"] []
 eI:ll K "all_runs" "all_runs" fS a.eM a.pP
 F5:mg "all_runs" =some (.ref a.eM)
 mw:keepIn K (.ref a.eM)=true
 pT:Binds K a.pP ["road","rounds","starts"] []
 f7:ll K "came_to" "came_to" g6 a.gj a.rm
 Jb:mg "came_to" =some (.ref a.gj)
 oS:keepIn K (.ref a.gj)=true
 rq:Binds K a.rm ["hands","weather","hand"] []
 kX:ll K "view" "view" nF a.mm a.F4
 Rq:mg "view" =some (.ref a.mm)
 Af:keepIn K (.ref a.mm)=true
 F6:Binds K a.F4 ["run","hand"] []
 bE:ll K "came_to_heard" "came_to_heard" bW a.bG a.jA
 sN:mg "came_to_heard" =some (.ref a.bG)
 gP:keepIn K (.ref a.bG)=true
 jC:Binds K a.jA ["hands","weather","heard"] []
 bF:ll K "heard_earlier" "heard_earlier" dc a.bH a.jB
 sO:mg "heard_earlier" =some (.ref a.bH)
 gQ:keepIn K (.ref a.bH)=true
 jD:Binds K a.jB ["heard","came_here"] []
 bd:ll K "row_between" "row_between" fu a.ce a.k8
 o4:mg "row_between" =some (.ref a.ce)
 gK:keepIn K (.ref a.ce)=true
 je:Binds K a.k8 ["hands","road","rounds","starts","one","other"] []
 bN:ll K "views_of_all" "views_of_all" cr a.bP a.ki
 vI:mg "views_of_all" =some (.ref a.bP)
 iB:keepIn K (.ref a.bP)=true
 ko:Binds K a.ki ["hands","runs"] []
 eH:ll K "views_in" "views_in" fU a.eN a.pQ
 F7:mg "views_in" =some (.ref a.eN)
 mx:keepIn K (.ref a.eN)=true
 pU:Binds K a.pQ ["hands","run"] []
 cp:ll K "runs_by_view" "runs_by_view" dM a.bQ a.kj
 vJ:mg "runs_by_view" =some (.ref a.bQ)
 iC:keepIn K (.ref a.bQ)=true
 kq:Binds K a.kj ["seen"] []
 ee:ll K "ways_from" "ways_from" g7 a.dv a.nM
 C8:mg "ways_from" =some (.ref a.dv)
 kF:keepIn K (.ref a.dv)=true
 nX:Binds K a.nM ["seen","sharing","first"] []
 aT:ll K "steps_by_new_views" "steps_by_new_views" ba a.aV a.fW
 nY:mg "steps_by_new_views" =some (.ref a.aV)
 dC:keepIn K (.ref a.aV)=true
 fX:Binds K a.fW ["views","sharing","walked"] []
 im:ll K "row_to" "row_to" lI a.iA a.vF
 Mh:mg "row_to" =some (.ref a.iA)
 qx:keepIn K (.ref a.iA)=true
 vK:Binds K a.vF ["ways","goal"] []
 az:ll K "_law_cell_at" "_law_cell_at" dN a.bR a.kl
 bp:mg "_law_cell_at" =some (.ref a.bR)
 aW:keepIn K (.ref a.bR)=true
 a7:Binds K a.kl ["_law_script","_law_k"] []
 bJ:ll K "_law_mix" "_law_mix" iS a.eO a.pR
 pV:mg "_law_mix" =some (.ref a.eO)
 iU:keepIn K (.ref a.eO)=true
 kr:Binds K a.pR ["_law_cell","_law_k"] []
 bt:ll K "_law_whole" "_law_whole" f_ a.cF a.mn
 qy:mg "_law_whole" =some (.ref a.cF)
 iD:keepIn K (.ref a.cF)=true
 jQ:Binds K a.mn ["_law_found"] []
 di:ll K "_law_pairs" "_law_pairs" gc a.cG a.mq
 Ag:mg "_law_pairs" =some (.ref a.cG)
 jR:keepIn K (.ref a.cG)=true
 my:Binds K a.mq ["_law_hands"] []
 bA:ll K "_law_weather" "_law_weather" dO a.bS a.km
 vL:mg "_law_weather" =some (.ref a.bS)
 iE:keepIn K (.ref a.bS)=true
 kt:Binds K a.km ["_law_number","_law_hands"] []
 d_:ll K "_law_road" "_law_road" g9 a.dw a.nN
 C9:mg "_law_road" =some (.ref a.dw)
 kG:keepIn K (.ref a.dw)=true
 nZ:Binds K a.nN ["_law_script","_law_hands","_law_many"] []
 bB:ll K "_law_values" "_law_values" fx a.cf a.k9
 xC:mg "_law_values" =some (.ref a.cf)
 jf:keepIn K (.ref a.cf)=true
 lg:Binds K a.k9 ["_law_script"] []
 cJ:ll K "_law_starts" "_law_starts" cO a.cg a.k_
 xD:mg "_law_starts" =some (.ref a.cg)
 jg:keepIn K (.ref a.cg)=true
 lh:Binds K a.k_ ["_law_script","_law_hands","_law_many"] []
 cm:ll K "_law_case" "_law_case" g_ a.dy a.nO
 C_:mg "_law_case" =some (.ref a.dy)
 kH:keepIn K (.ref a.dy)=true
 n5:Binds K a.nO ["_law_script"] []
 dk:ll K "_law_runs" "_law_runs" hJ a.dz a.nP
 Dc:mg "_law_runs" =some (.ref a.dz)
 kI:keepIn K (.ref a.dz)=true
 n6:Binds K a.nP ["_law_road_here","_law_rounds","_law_starts_here"] []
 bb:ll K "_law_senders" "_law_senders" dQ a.bT a.kn
 iF:mg "_law_senders" =some (.ref a.bT)
 cU:keepIn K (.ref a.bT)=true
 dR:Binds K a.kn ["_law_hands","_law_weather_here","_law_hand"] []
 cK:ll K "_law_view" "_law_view" eA a.dA a.nQ
 Dd:mg "_law_view" =some (.ref a.dA)
 kJ:keepIn K (.ref a.dA)=true
 n8:Binds K a.nQ ["_law_run","_law_hand"] []
 ca:ll K "_law_groups" "_law_groups" fy a.ci a.lf
 xE:mg "_law_groups" =some (.ref a.ci)
 jh:keepIn K (.ref a.ci)=true
 lj:Binds K a.lf ["_law_hands","_law_runs_here"] []
 cD:ll K "_law_parts" "_law_parts" cc a.cH a.mr
 Ah:mg "_law_parts" =some (.ref a.cH)
 jS:keepIn K (.ref a.cH)=true
 mz:Binds K a.mr ["_law_many","_law_groups_here"] []
 cq:ll K "_law_same" "_law_same" eB a.dB a.nU
 De:mg "_law_same" =some (.ref a.dB)
 kK:keepIn K (.ref a.dB)=true
 n9:Binds K a.nU ["_law_one","_law_other"] []
 eK:ll K "_law_row" "_law_row" iT a.eP a.pS
 F8:mg "_law_row" =some (.ref a.eP)
 mB:keepIn K (.ref a.eP)=true
 pX:Binds K a.pS ["_law_runs_here","_law_hands","_law_first","_law_steps"] []
 mK:ll K "law" "law" nJ a.sv a.Me
 Wr:mg "law" =some (.ref a.sv)
 Mi:keepIn K (.ref a.sv)=true
 PH:Binds K a.Me ["_law_script"] []
 bool:mg "bool" =none
 dict:mg "dict" =none
 enumerate:mg "enumerate" =none
 int:mg "int" =none
 isinstance:mg "isinstance" =none
 len:mg "len" =none
 list:mg "list" =none
 min:mg "min" =none
 range:mg "range" =none
 reversed:mg "reversed" =none
 set:mg "set" =none
 sorted:mg "sorted" =none
 tuple:mg "tuple" =none
 Df:mg "MOST_RUNS" =some (.int 3000 a.kC)
section
variable {P:Program}{w:World}{K:Frag}{mg:Str->Option Value}{base:Heap}{a:Wq}
seal DS Km DE DA DT DW DI
theorem n_ (T:Tx K mg a):cu P w K mg base kx 1 a.eO a.pR ["_law_cell","_law_k"] (lZ K 2 bJ):=by
 refine gC (fb:=mf) 0 4 2 rfl rfl T.bJ g8 λcdv A outer s H E hr=> ?_
 have bm:=hr.aZ
 exact(ae (dX (bn (Rl) (af 0) (aK (ut) am am) (cj _))
 (ae (aw (i:=0) g8.nd rfl (Or.inl rfl) (aK (p9) (aK (dH) (af 0) (aK (ut) am am)) am))
 (ae (bh PassesOwn.never rfl (dY (by rfl) T.range (aK (b_) (af 1) am)) (cT (i:=2) g8.nd rfl (Or.inl rfl))
 (ak (aw (i:=0) g8.nd rfl (Or.inl rfl) (aK (dH) (af 0) am))))
 (ak (aY (aK (b_) (af 0) am)))))
 bx)
 (ae (aw (i:=3) g8.nd rfl (Or.inl rfl) (aK (b_) (aK (l4) (aK (dF) (aK (dF) (aK (b_) (af 0) am) (aK (l4) (aK (l4) (af 1) (af 1)) am)) (af 1)) am) am))
 (ae (aw (i:=3) g8.nd rfl (Or.inl rfl) (aK (b_) (aK (l4) (af 3) (af 3)) am))
 (ak (aY (aK (dH) (aK (b_) (aK (l4) (af 3) (aK (dF) (af 3) am)) am) am))))))
theorem xF (T:Tx K mg a):cu P w K mg base kx 1 a.cG a.mq ["_law_hands"] (lZ K 1 di):=by
 refine gC (fb:=qp) 0 4 1 rfl rfl T.di jd λcdv A outer s H E hr=> ?_
 have bm:=hr.aZ
 exact(ae (aw (i:=1) jd.nd rfl (Or.inl rfl) (bK aj))
 (ae (bh PassesOwn.never rfl (dY (by rfl) T.range (af 0)) (cT (i:=2) jd.nd rfl (Or.inl rfl))
 (ak (bh PassesOwn.never rfl (dY (by rfl) T.range (af 0)) (cT (i:=3) jd.nd rfl (Or.inl rfl))
 (ak (dX (bn (pA bm) (af 2) (af 3) (cj _))
 (ak (fC (i:=1) (pv 1) (eF (ab (af 2) (ab (af 3) aj ai) ai))))
 bx)))))
 (ak (aY (af 1)))))
theorem sP (T:Tx K mg a):cu P w K mg base kx 2 a.bS a.km ["_law_number","_law_hands"] (lZ K 2 bA):=by
 have Ai:=xF (P:=P) (w:=w) (base:=base) T
 refine gC (fb:=j8) 1 4 2 rfl rfl T.bA gO λcdv A outer s H E hr=> ?_
 have bm:=hr.aZ
 exact(ae (aw (i:=2) gO.nd rfl (Or.inl rfl) (bK aj))
 (ae (bh PassesOwn.never rfl (m_ (aD Ai (hr.mono (by decide)) (by rfl) T.Ag T.jR T.my (E:=E0) bf (ab (af 1) aj ai))) (cT (i:=3) gO.nd rfl (Or.inl rfl))
 (ae (dX (bn (lX bm) (aK (b_) (af 0) am) am (cj _))
 (ak (fC (i:=2) (pv 2) (af 3)))
 bx)
 (ak (aw (i:=0) gO.nd rfl (Or.inl rfl) (aK (dH) (af 0) am)))))
 (ak (aY (cR dg (by rfl) T.tuple PyProof.Rows.boot_tuple (ab (af 2) aj ai))))))
theorem eU (T:Tx K mg a):cu P w K mg base kx 1 a.bR a.kl ["_law_script","_law_k"] (lZ K 2 az):=by
 refine gC (fb:=ik) 0 2 2 rfl rfl T.az sM λcdv A outer s H E hr=> ?_
 have bm:=hr.aZ
 exact(ae (dX (bn (zB) (af 1) (cB bZ (by rfl) T.len PySem.boot_len (ab (af 0) aj ai)) (cj _))
 (ak (aY (aS iI (af 0) (af 1) (λ_ _=>rfl))))
 bx)
 (ak (aY am)))
theorem Aj (T:Tx K mg a):cu P w K mg base kx 3 a.dw a.nN ["_law_script","_law_hands","_law_many"] (lZ K 3 d_):=by
 have ku:=n_ (P:=P) (w:=w) (base:=base) T
 have vM:=sP (P:=P) (w:=w) (base:=base) T
 have aQ:=eU (P:=P) (w:=w) (base:=base) T
 refine gC (fb:=nk) 2 7 3 rfl rfl T.d_ gg λcdv A outer s H E hr=> ?_
 have bm:=hr.aZ
 exact(ae (aw (i:=3) gg.nd rfl (Or.inl rfl) (bK aj))
 (ae (dX (bn (lX bm) (aK (b_) (aD aQ (hr.mono (by decide)) (by rfl) T.bp T.aW T.a7 (E:=E0) bf (ab (af 0) (ab am aj cz) ai)) am) am (cj _))
 (ak (fC (i:=3) (pv 3) (eF aj)))
 bx)
 (ae (bh PassesOwn.never rfl (dY (by rfl) T.range (af 2)) (cT (i:=4) gg.nd rfl (Or.inl rfl))
 (ae (aw (i:=5) gg.nd rfl (Or.inl rfl) (aD ku (hr.mono (by decide)) (by rfl) T.pV T.iU T.kr (E:=E0) bf (ab (aD aQ (hr.mono (by decide)) (by rfl) T.bp T.aW T.a7 (E:=E0) bf (ab (af 0) (ab (aK (dF) am (af 4)) aj) ai)) (ab (aK (dF) am (af 4)) aj))))
 (ae (aw (i:=6) gg.nd rfl (Or.inl rfl) (aD vM (hr.mono (by decide)) (by rfl) T.vL T.iE T.kt (E:=E0) bf (ab (af 5) (ab (af 1) aj ai) ai)))
 (ae (dX (bn (lX bm) (aK (b_) (aK (dH) (af 5) am) am) am (cj _))
 (ak (aw (i:=6) gg.nd rfl (Or.inl rfl) (Ly (af 6) uW (uX am))))
 bx)
 (ak (dX (DW.dt (zD (bn (lx bm) (af 6) (af 3) (by rfl)) (uv (bn (zB) (cB bZ (by rfl) T.len PySem.boot_len (ab (af 3) aj ai)) (af 2) (cj _)))))
 (ak (fC (i:=3) (pv 3) (af 6)))
 bx))))))
 (ak (aY (af 3))))))
theorem vN (T:Tx K mg a):cu P w K mg base kx 2 a.cf a.k9 ["_law_script"] (lZ K 1 bB):=by
 have aQ:=eU (P:=P) (w:=w) (base:=base) T
 refine gC (fb:=iY) 1 3 1 rfl rfl T.bB iu λcdv A outer s H E hr=> ?_
 have bm:=hr.aZ
 exact(ae (aw (i:=1) iu.nd rfl (Or.inl rfl) (aK (b_) (aD aQ (hr.mono (by decide)) (by rfl) T.bp T.aW T.a7 (E:=E0) bf (ab (af 0) (ab am aj cz) ai)) (aK (ut) am am)))
 (ae (aw (i:=2) iu.nd rfl (Or.inl rfl) (aK (dF) (aK (dF) (af 1) am) (aK (b_) (aD aQ (hr.mono (by decide)) (by rfl) T.bp T.aW T.a7 (E:=E0) bf (ab (af 0) (ab am aj cz) ai)) am)))
 (ae (dX (bn (lX bm) (aK (b_) (aD aQ (hr.mono (by decide)) (by rfl) T.bp T.aW T.a7 (E:=E0) bf (ab (af 0) (ab am aj cz) ai)) am) am (cj _))
 (ak (aw (i:=2) iu.nd rfl (Or.inl rfl) (aK (p9) (yz oD am) (aK (b_) (aD aQ (hr.mono (by decide)) (by rfl) T.bp T.aW T.a7 (E:=E0) bf (ab (af 0) (ab am aj cz) ai)) (aK (ut) am am)))))
 bx)
 (ak (aY (bK (ab (aK (dH) (af 1) am) (ab (aK (p9) (aK (dH) (af 2) am) am) (ab (aK (dF) am (aK (dH) (af 1) am)) aj)))))))))
theorem vO (T:Tx K mg a):cu P w K mg base kx 3 a.cg a.k_ ["_law_script","_law_hands","_law_many"] (lZ K 3 cJ):=by
 have xG:=vN (P:=P) (w:=w) (base:=base) T
 have ku:=n_ (P:=P) (w:=w) (base:=base) T
 have aQ:=eU (P:=P) (w:=w) (base:=base) T
 refine gC (fb:=kS) 2 8 3 rfl rfl T.cJ dP λcdv A outer s H E hr=> ?_
 have bm:=hr.aZ
 exact(ae (aw (i:=3) dP.nd rfl (Or.inr rfl) (aD xG (hr.mono (by decide)) (by rfl) T.xC T.jf T.lg (E:=E0) bf (ab (af 0) aj ai)))
 (ae (aw (i:=4) dP.nd rfl (Or.inl rfl) (bK aj))
 (ae (bh PassesOwn.never rfl (dY (by rfl) T.range (af 2)) (cT (i:=5) dP.nd rfl (Or.inl rfl))
 (ae (aw (i:=6) dP.nd rfl (Or.inr rfl) (aD ku (hr.mono (by decide)) (by rfl) T.pV T.iU T.kr (E:=E0) bf (ab (aD aQ (hr.mono (by decide)) (by rfl) T.bp T.aW T.a7 (E:=E0) bf (ab (af 0) (ab (aK (dF) am (af 5)) aj) ai)) (ab (aK (dF) am (af 5)) aj))))
 (ae (aw (i:=7) dP.nd rfl (Or.inl rfl) (cR dg (by rfl) T.tuple PyProof.Rows.boot_tuple (ab (iX rfl (F:=["_law_values_here","_law_number"]) (ix:=[3,6]) ⟨rfl,rfl,by decide+kernel,by decide+kernel,by(change∀y∈(_:List (Str×NameKind)),y.2=NameKind.free->(ag cO).names.lookup y.1=some .cell∨(ag cO).names.lookup y.1=some .free);decide+kernel,by decide+kernel,by decide+kernel,rfl⟩ (dY (by rfl) T.range (af 1)) (λ_ _ _ _ _=>iW) (λ_ _ _ _ _=>(aS iI (af 1) (aK (b_) (aK (b_) (aK (dH) (af 2) (aS iI (bK (ab am (ab am (ab am (ab am aj cz) cz) cz) cz)) (af 0) (λ_ _=>rfl))) am) am) (λ_ _=>rfl)))) aj)))
 (ak (dX (bn (lx bm) (af 7) (af 4) (by rfl))
 (ak (fC (i:=4) (pv 4) (af 7)))
 bx)))))
 (ak (aY (af 4))))))
theorem Ak (T:Tx K mg a):cu P w K mg base kx 4 a.dy a.nO ["_law_script"] (lZ K 1 cm):=by
 have Dg:=Aj (P:=P) (w:=w) (base:=base) T
 have xH:=vO (P:=P) (w:=w) (base:=base) T
 have aQ:=eU (P:=P) (w:=w) (base:=base) T
 refine gC (fb:=nq) 3 6 1 rfl rfl T.cm gh λcdv A outer s H E hr=> ?_
 have bm:=hr.aZ
 exact(ae (aw (i:=1) gh.nd rfl (Or.inl rfl) (aK (dF) am (aK (b_) (aD aQ (hr.mono (by decide)) (by rfl) T.bp T.aW T.a7 (E:=E0) bf (ab (af 0) (ab am aj cz) ai)) am)))
 (ae (aw (i:=2) gh.nd rfl (Or.inl rfl) (aS iI (bK (ab am (ab am (ab am aj cz) cz) cz)) (aK (p9) (af 1) am) (λ_ _=>rfl)))
 (ae (aw (i:=3) gh.nd rfl (Or.inl rfl) (aK (b_) (aK (dH) (aD aQ (hr.mono (by decide)) (by rfl) T.bp T.aW T.a7 (E:=E0) bf (ab (af 0) (ab am aj cz) ai)) am) (aS iI (bK (ab am (ab am (ab am aj cz) cz) cz)) (aK (p9) (af 1) am) (λ_ _=>rfl))))
 (ae (aw (i:=4) gh.nd rfl (Or.inl rfl) (aD Dg (hr.mono (by decide)) (by rfl) T.C9 T.kG T.nZ (E:=E0) bf (ab (af 0) (ab (af 1) (ab (af 2) aj ai) ai) ai)))
 (ae (aw (i:=5) gh.nd rfl (Or.inl rfl) (aD xH (hr.mono (by decide)) (by rfl) T.xD T.jg T.lh (E:=E0) bf (ab (af 0) (ab (af 1) (ab (aK (dF) am (aK (b_) (aK (dH) (aD aQ (hr.mono (by decide)) (by rfl) T.bp T.aW T.a7 (E:=E0) bf (ab (af 0) (ab am aj cz) ai)) am) am)) aj) ai) ai)))
 (ak (aY (eF (ab (af 1) (ab (af 4) (ab (af 3) (ab (af 5) aj ai) ai) ai) ai)))))))))
theorem Al (T:Tx K mg a):cu P w K mg base kx 1 a.dz a.nP ["_law_road_here","_law_rounds","_law_starts_here"] (lZ K 3 dk):=by
 refine gC (fb:=nu) 0 10 3 rfl rfl T.dk cb λcdv A outer s H E hr=> ?_
 have bm:=hr.aZ
 exact(ae (aw (i:=3) cb.nd rfl (Or.inl rfl) (bK (ab (eF aj) aj Rp)))
 (ae (bh PassesOwn.never rfl (dY (by rfl) T.range (af 1)) (cT (i:=4) cb.nd rfl (Or.inl rfl))
 (ae (aw (i:=5) cb.nd rfl (Or.inl rfl) (bK aj))
 (ae (bh PassesOwn.never rfl (m_ (af 3)) (cT (i:=6) cb.nd rfl (Or.inl rfl))
 (ak (bh PassesOwn.never rfl (m_ (af 0)) (cT (i:=7) cb.nd rfl (Or.inl rfl))
 (ak (fC (i:=5) (pv 5) (aK (dF) (af 6) (eF (ab (af 7) aj ai))))))))
 (ak (rc (i:=3) (j:=5) cb.nd rfl (Or.inl rfl) (pv 5))))))
 (ae (aw (i:=8) cb.nd rfl (Or.inl rfl) (bK aj))
 (ae (bh PassesOwn.never rfl (m_ (af 2)) (cT (i:=9) cb.nd rfl (Or.inl rfl))
 (ak (bh PassesOwn.never rfl (m_ (af 3)) (cT (i:=6) cb.nd rfl (Or.inl rfl))
 (ak (fC (i:=8) (pv 8) (eF (ab (af 9) (ab (af 6) aj ai) ai)))))))
 (ak (aY (af 8)))))))
theorem xI (T:Tx K mg a):cu P w K mg base kx 1 a.cH a.mr ["_law_many","_law_groups_here"] (lZ K 2 cD):=by
 refine gC (fb:=mh) 0 10 2 rfl rfl T.cD bC λcdv A outer s H E hr=> ?_
 have bm:=hr.aZ
 exact(ae (aw (i:=2) bC.nd rfl (Or.inr rfl) (LO rfl (by rfl) T.list (by rfl) T.range (af 0)))
 (ae (aw (i:=3) bC.nd rfl (Or.inl rfl) p8)
 (ae (uU sI PassesOwn.never (pB (af 3))
 (ae (aw (i:=3) bC.nd rfl (Or.inl rfl) p8)
 (ak (bh PassesOwn.never rfl (LW (af 1)) (uT (is:=[4,5]) rfl (bY (cv (i:=4) bC.nd rfl (Or.inl rfl)) (bY (cv (i:=5) bC.nd rfl (Or.inl rfl)) ky)))
 (ae (aw (i:=6) bC.nd rfl (Or.inl rfl) (cB (FP rfl) (by rfl) T.min PyProof.Rows.boot_min (ab (iX rfl (F:=["_law_names"]) (ix:=[2]) ⟨rfl,rfl,by decide+kernel,by decide+kernel,by(change∀y∈(_:List (Str×NameKind)),y.2=NameKind.free->(ag cc).names.lookup y.1=some .cell∨(ag cc).names.lookup y.1=some .free);decide+kernel,by decide+kernel,by decide+kernel,rfl⟩ (m_ (af 5)) (λ_ _ _ _ _=>iW) (λ_ _ _ _ _=>(aS iI (af 1) (af 0) (λ_ _=>rfl)))) aj)))
 (ak (bh PassesOwn.never rfl (m_ (af 5)) (cT (i:=7) bC.nd rfl (Or.inl rfl))
 (ak (dX (bn (FA) (aS iI (af 2) (af 7) (λ_ _=>rfl)) (af 6) (cj _))
 (ae (zL (i:=2) (pv 2) (af 7) (af 6))
 (ak (aw (i:=3) bC.nd rfl (Or.inl rfl) p8)))
 bx)))))))))
 (ae (aw (i:=8) bC.nd rfl (Or.inl rfl) (bK aj))
 (ae (bh PassesOwn.never rfl (dY (by rfl) T.range (af 0)) (cT (i:=9) bC.nd rfl (Or.inr rfl))
 (ak (dX (bn (lX bm) (aS iI (af 2) (af 9) (λ_ _=>rfl)) (af 9) (cj _))
 (ak (fC (i:=8) (pv 8) (iX rfl (F:=["_law_name","_law_names"]) (ix:=[9,2]) ⟨rfl,rfl,by decide+kernel,by decide+kernel,by(change∀y∈(_:List (Str×NameKind)),y.2=NameKind.free->(ag cc).names.lookup y.1=some .cell∨(ag cc).names.lookup y.1=some .free);decide+kernel,by decide+kernel,by decide+kernel,rfl⟩ (dY (by rfl) T.range (af 0)) (λ_ _ _ _ _=>(zJ (bn (lX bm) (aS iI (af 2) (af 0) (λ_ _=>rfl)) (af 1) (cj _)))) (λ_ _ _ _ _=>(af 0)))))
 bx)))
 (ak (aY (af 8))))))))
theorem mL (T:Tx K mg a):cu P w K mg base kx 1 a.bT a.kn ["_law_hands","_law_weather_here","_law_hand"] (lZ K 3 bb):=by
 refine gC (fb:=kb) 0 5 3 rfl rfl T.bb jz λcdv A outer s H E hr=> ?_
 have bm:=hr.aZ
 exact(ae (aw (i:=3) jz.nd rfl (Or.inl rfl) (bK aj))
 (ae (bh PassesOwn.never rfl (dY (by rfl) T.range (af 0)) (cT (i:=4) jz.nd rfl (Or.inl rfl))
 (ak (dX (DW.dt (zD (bn (pA bm) (af 4) (af 2) (cj _)) (uv (bn (lx bm) (eF (ab (af 4) (ab (af 2) aj ai) ai)) (af 1) (by rfl)))))
 (ak (fC (i:=3) (pv 3) (af 4)))
 bx)))
 (ak (aY (cR dg (by rfl) T.tuple PyProof.Rows.boot_tuple (ab (af 3) aj ai))))))
theorem Am (T:Tx K mg a):cu P w K mg base kx 2 a.dA a.nQ ["_law_run","_law_hand"] (lZ K 2 cK):=by
 have fY:=mL (P:=P) (w:=w) (base:=base) T
 refine gC (fb:=ny) 1 13 2 rfl rfl T.cK aU λcdv A outer s H E hr=> ?_
 have bm:=hr.aZ
 exact(ae (aw (i:=2) aU.nd rfl (Or.inl rfl) (cB bZ (by rfl) T.len PySem.boot_len (ab (aS iI (af 0) am (λ_ _=>rfl)) aj gx)))
 (ae (pE (i:=3) aU.nd rfl (Or.inl rfl) rfl (F:=[]) (ix:=[]) ⟨rfl,rfl,by decide+kernel,by decide+kernel,by(change∀y∈(_:List (Str×NameKind)),y.2=NameKind.free->(ag eA).names.lookup y.1=some .cell∨(ag eA).names.lookup y.1=some .free);decide+kernel,by decide+kernel,by decide+kernel,rfl⟩ (dY (by rfl) T.range (af 2)) (λ_ _ _ _ _=>iW) (λ_ _ _ _ _=>(Hx bm (eF (ab (af 0) (ab am aj cz) ai)) p8)) (by rfl))
 (ae (bh PassesOwn.never rfl (HB (by rfl) T.enumerate (aS iI (af 0) am (λ_ _=>rfl))) (uT (is:=[4,5]) rfl (bY (cv (i:=4) aU.nd rfl (Or.inl rfl)) (bY (cv (i:=5) aU.nd rfl (Or.inl rfl)) ky)))
 (ae (aw (i:=6) aU.nd rfl (Or.inl rfl) (bK aj))
 (ae (bh PassesOwn.never rfl (dY (by rfl) T.range (af 2)) (cT (i:=7) aU.nd rfl (Or.inl rfl))
 (ae (aw (i:=8) aU.nd rfl (Or.inl rfl) (cR FI (by rfl) T.dict PyProof.Rows.boot_dict (ab (aS iI (af 3) (af 7) (λ_ _=>rfl)) aj gx)))
 (ae (bh PassesOwn.never rfl (m_ (aD fY (hr.mono (by decide)) (by rfl) T.iF T.cU T.dR (E:=E0) bf (ab (af 2) (ab (af 5) (ab (af 7) aj ai) ai) ai))) (cT (i:=9) aU.nd rfl (Or.inl rfl))
 (ak (QZ bm (i:=8) (pv 8) (aS iI (af 3) (af 9) (λ_ _=>rfl)))))
 (ae (Hw bm (i:=8) (pv 8) (eF (ab (af 7) (ab (aK (dF) (af 4) am) aj) ai)) p8)
 (ak (fC (i:=6) (pv 6) (af 8)))))))
 (ak (rc (i:=3) (j:=6) aU.nd rfl (Or.inl rfl) (pv 6))))))
 (ae (aw (i:=10) aU.nd rfl (Or.inl rfl) (Lu (bK (ab ie aj cz)) (af 2)))
 (ae (aw (i:=11) aU.nd rfl (Or.inl rfl) (bK aj))
 (ae (bh PassesOwn.never rfl (dY (by rfl) T.range (af 2)) (cT (i:=7) aU.nd rfl (Or.inl rfl))
 (ak (dX (bn (Hu bm) (eF (ab (af 7) (ab am aj cz) ai)) (aS iI (af 3) (af 1) (λ_ _=>rfl)) (by rfl))
 (ak (zL (i:=10) (pv 10) (af 7) (aS iI (aS iI (af 0) am (λ_ _=>rfl)) (af 7) (λ_ _=>rfl))))
 bx)))
 (ae (bh PassesOwn.never rfl (HB (by rfl) T.enumerate (aS iI (af 0) am (λ_ _=>rfl))) (uT (is:=[4,5]) rfl (bY (cv (i:=4) aU.nd rfl (Or.inl rfl)) (bY (cv (i:=5) aU.nd rfl (Or.inl rfl)) ky)))
 (ae (aw (i:=12) aU.nd rfl (Or.inl rfl) (Lu (bK (ab ie aj cz)) (af 2)))
 (ae (bh PassesOwn.never rfl (dY (by rfl) T.range (af 2)) (cT (i:=7) aU.nd rfl (Or.inl rfl))
 (ak (dX (bn (Hu bm) (eF (ab (af 7) (ab (aK (dF) (af 4) am) aj) ai)) (aS iI (af 3) (af 1) (λ_ _=>rfl)) (by rfl))
 (ak (zL (i:=12) (pv 12) (af 7) (aD fY (hr.mono (by decide)) (by rfl) T.iF T.cU T.dR (E:=E0) bf (ab (af 2) (ab (af 5) (ab (af 7) aj ai) ai) ai))))
 bx)))
 (ak (fC (i:=11) (pv 11) (cR dg (by rfl) T.tuple PyProof.Rows.boot_tuple (ab (af 12) aj ai)))))))
 (ak (aY (eF (ab (af 1) (ab (cR dg (by rfl) T.tuple PyProof.Rows.boot_tuple (ab (af 10) aj ai)) (ab (cR dg (by rfl) T.tuple PyProof.Rows.boot_tuple (ab (af 11) aj ai)) aj)) ai)))))))))))
theorem vP (T:Tx K mg a):cu P w K mg base kx 3 a.ci a.lf ["_law_hands","_law_runs_here"] (lZ K 2 ca):=by
 have Dh:=Am (P:=P) (w:=w) (base:=base) T
 refine gC (fb:=kU) 2 6 2 rfl rfl T.ca fV λcdv A outer s H E hr=> ?_
 have bm:=hr.aZ
 exact(ae (aw (i:=2) fV.nd rfl (Or.inl rfl) zX)
 (ae (bh PassesOwn.never rfl (vh (by rfl) T.enumerate (af 1)) (uT (is:=[3,4]) rfl (bY (cv (i:=3) fV.nd rfl (Or.inl rfl)) (bY (cv (i:=4) fV.nd rfl (Or.inl rfl)) ky)))
 (ak (bh PassesOwn.never rfl (dY (by rfl) T.range (af 0)) (cT (i:=5) fV.nd rfl (Or.inl rfl))
 (ak (PB bm (i:=2) (j:=3) (pv 2) (aD Dh (hr.mono (by decide)) (by rfl) T.Dd T.kJ T.n8 (E:=E0) bf (ab (af 4) (ab (af 5) aj ai) ai)) (pv 3))))))
 (ak (aY (af 2)))))
theorem F9 (T:Tx K mg a):cu P w K mg base kx 1 a.gj a.rm ["hands","weather","hand"] (lZ K 3 f7):=by
 refine gC (fb:=rj) 0 3 3 rfl rfl T.f7 F3 λcdv A outer s H E hr=> ?_
 have bm:=hr.aZ
 exact(ak (aY (cR dg (by rfl) T.tuple PyProof.Rows.boot_tuple (ab (iX rfl (F:=["hand","weather"]) (ix:=[2,1]) ⟨rfl,rfl,by decide+kernel,by decide+kernel,by(change∀y∈(_:List (Str×NameKind)),y.2=NameKind.free->(ag g6).names.lookup y.1=some .cell∨(ag g6).names.lookup y.1=some .free);decide+kernel,by decide+kernel,by decide+kernel,rfl⟩ (dY (by rfl) T.range (af 0)) (λ_ _ _ _ _=>(zJ (DW.dt (zD (bn (pA bm) (af 0) (af 1) (cj _)) (uv (bn (lx bm) (eF (ab (af 0) (ab (af 1) aj ai) ai)) (af 2) (by rfl))))))) (λ_ _ _ _ _=>(af 0))) aj))))
theorem rz (T:Tx K mg a):cu P w K mg base kx 2 a.bG a.jA ["hands","weather","heard"] (lZ K 3 bE):=by
 have Jc:=F9 (P:=P) (w:=w) (base:=base) T
 refine gC (fb:=jx) 1 3 3 rfl rfl T.bE rl λcdv A outer s H E hr=> ?_
 have bm:=hr.aZ
 exact(ak (aY (cR dg (by rfl) T.tuple PyProof.Rows.boot_tuple (ab (iX rfl (F:=["heard","hands","weather"]) (ix:=[2,0,1]) ⟨rfl,rfl,by decide+kernel,by decide+kernel,by(change∀y∈(_:List (Str×NameKind)),y.2=NameKind.free->(ag bW).names.lookup y.1=some .cell∨(ag bW).names.lookup y.1=some .free);decide+kernel,by decide+kernel,by decide+kernel,rfl⟩ (dY (by rfl) T.range (af 0)) (λ_ _ _ _ _=>iW) (λ_ _ _ _ _=>(Pu (bn (uR bm) (af 0) (af 1) (by rfl)) (aD Jc (hr.mono (by decide)) (by rfl) T.Jb T.oS T.rq (E:=E0) bf (ab (af 2) (ab (af 3) (ab (af 0) aj ai) ai) ai)) ie))) aj))))
theorem rA (T:Tx K mg a):cu P w K mg base kx 1 a.bH a.jB ["heard","came_here"] (lZ K 2 bF):=by
 refine gC (fb:=jy) 0 4 2 rfl rfl T.bF iR λcdv A outer s H E hr=> ?_
 have bm:=hr.aZ
 exact(ae (aw (i:=2) iR.nd rfl (Or.inl rfl) (cR pD (by rfl) T.list PyProof.Rows.boot_list (ab (af 0) aj ai)))
 (ae (bh PassesOwn.never rfl (m_ (af 1)) (cT (i:=3) iR.nd rfl (Or.inl rfl))
 (ak (dX (bn (q_) (af 3) ie (cj _))
 (ak (QQ (i:=2) (pv 2) (af 3)))
 bx)))
 (ak (aY (FZ rfl (by rfl) T.sorted (by rfl) T.set (af 2))))))
theorem OG (T:Tx K mg a):cu P w K mg base kx 3 a.mm a.F4 ["run","hand"] (lZ K 2 kX):=by
 have sQ:=rz (P:=P) (w:=w) (base:=base) T
 have sR:=rA (P:=P) (w:=w) (base:=base) T
 refine gC (fb:=F2) 2 9 2 rfl rfl T.kX jP λcdv A outer s H E hr=> ?_
 have bm:=hr.aZ
 exact(ae (aw (i:=2) jP.nd rfl (Or.inr rfl) (aS iI (af 0) am (λ_ _=>rfl)))
 (ae (aw (i:=3) jP.nd rfl (Or.inl rfl) (cB bZ (by rfl) T.len PySem.boot_len (ab (af 2) aj ai)))
 (ae (aw (i:=4) jP.nd rfl (Or.inr rfl) (bK (ab (af 1) aj ai)))
 (ae (aw (i:=5) jP.nd rfl (Or.inl rfl) (bK aj))
 (ae (bh PassesOwn.never rfl (QS rfl (by rfl) T.reversed (aS iI (af 0) am (λ_ _=>rfl))) (cT (i:=6) jP.nd rfl (Or.inl rfl))
 (ae (aw (i:=7) jP.nd rfl (Or.inl rfl) (aD sQ (hr.mono (by decide)) (by rfl) T.sN T.gP T.jC (E:=E0) bf (ab (af 3) (ab (af 6) (ab (af 4) aj ai) ai) ai)))
 (ae (fC (i:=5) (pv 5) (af 7))
 (ak (aw (i:=4) jP.nd rfl (Or.inr rfl) (aD sR (hr.mono (by decide)) (by rfl) T.sO T.gQ T.jD (E:=E0) bf (ab (af 4) (ab (af 7) aj ai) ai)))))))
 (ae (pE (i:=8) jP.nd rfl (Or.inl rfl) rfl (F:=["heard","values"]) (ix:=[4,2]) ⟨rfl,rfl,by decide+kernel,by decide+kernel,by(change∀y∈(_:List (Str×NameKind)),y.2=NameKind.free->(ag nF).names.lookup y.1=some .cell∨(ag nF).names.lookup y.1=some .free);decide+kernel,by decide+kernel,by decide+kernel,rfl⟩ (dY (by rfl) T.range (af 3)) (λ_ _ _ _ _=>iW) (λ_ _ _ _ _=>(Pu (bn (uR bm) (af 0) (af 1) (by rfl)) (aS iI (af 2) (af 0) (λ_ _=>rfl)) ie)) (by rfl))
 (ak (aY (eF (ab (af 1) (ab (cR dg (by rfl) T.tuple PyProof.Rows.boot_tuple (ab (af 8) aj ai)) (ab (yF rfl (by rfl) T.tuple (by rfl) T.reversed (af 5)) aj)) ai))))))))))
theorem Di (T:Tx K mg a):cu P w K mg base kx 4 a.eN a.pQ ["hands","run"] (lZ K 2 eH):=by
 have Rr:=OG (P:=P) (w:=w) (base:=base) T
 refine gC (fb:=pL) 3 2 2 rfl rfl T.eH C6 λcdv A outer s H E hr=> ?_
 have bm:=hr.aZ
 exact(ak (aY (iX rfl (F:=["run"]) (ix:=[1]) ⟨rfl,rfl,by decide+kernel,by decide+kernel,by(change∀y∈(_:List (Str×NameKind)),y.2=NameKind.free->(ag fU).names.lookup y.1=some .cell∨(ag fU).names.lookup y.1=some .free);decide+kernel,by decide+kernel,by decide+kernel,rfl⟩ (dY (by rfl) T.range (af 0)) (λ_ _ _ _ _=>iW) (λ_ _ _ _ _=>(aD Rr (hr.mono (by decide)) (by rfl) T.Rq T.Af T.F6 (E:=E0) bf (ab (af 1) (ab (af 0) aj ai) ai))))))
theorem sS (T:Tx K mg a):cu P w K mg base kx 5 a.bP a.ki ["hands","runs"] (lZ K 2 bN):=by
 have F_:=Di (P:=P) (w:=w) (base:=base) T
 refine gC (fb:=kc) 4 2 2 rfl rfl T.bN sL λcdv A outer s H E hr=> ?_
 have bm:=hr.aZ
 exact(ak (aY (iX rfl (F:=["hands"]) (ix:=[0]) ⟨rfl,rfl,by decide+kernel,by decide+kernel,by(change∀y∈(_:List (Str×NameKind)),y.2=NameKind.free->(ag cr).names.lookup y.1=some .cell∨(ag cr).names.lookup y.1=some .free);decide+kernel,by decide+kernel,by decide+kernel,rfl⟩ (m_ (af 1)) (λ_ _ _ _ _=>iW) (λ_ _ _ _ _=>(aD F_ (hr.mono (by decide)) (by rfl) T.F7 T.mx T.pU (E:=E0) bf (ab (af 1) (ab (af 0) aj ai) ai))))))
theorem Jd (T:Tx K mg a):cu P w K mg base kx 1 a.iA a.vF ["ways","goal"] (lZ K 2 im):=by
 refine gC (fb:=qr) 0 5 2 rfl rfl T.im lJ λcdv A outer s H E hr=> ?_
 have bm:=hr.aZ
 exact(ae (dX (bn (pH bm) (af 1) (af 0) (by rfl))
 (ak (aY ie))
 bx)
 (ae (aw (i:=2) lJ.nd rfl (Or.inl rfl) (bK aj))
 (ae (rc (i:=3) (j:=1) lJ.nd rfl (Or.inl rfl) (pv 1))
 (ae (uU sI PassesOwn.never (bn (q_) (aS (Q4 bm) (af 0) (af 3) (λ_ _=>rfl)) ie (cj _))
 (ae (aw (i:=4) lJ.nd rfl (Or.inl rfl) (aS (Q4 bm) (af 0) (af 3) (λ_ _=>rfl)))
 (ae (fC (i:=2) (pv 2) (eF (ab (aS iI (af 4) am (λ_ _=>rfl)) (ab (af 3) aj ai) gx)))
 (ak (aw (i:=3) lJ.nd rfl (Or.inl rfl) (aS iI (af 4) am (λ_ _=>rfl)))))))
 (ak (aY (FN rfl (by rfl) T.list (by rfl) T.reversed (af 2))))))))
theorem qz (T:Tx K mg a):cu P w K mg base kx 1 a.dq a.nK ["things","length"] (lZ K 2 cL):=by
 refine gC (fb:=nB) 0 4 2 rfl rfl T.cL jO λcdv A outer s H E hr=> ?_
 have bm:=hr.aZ
 exact(ae (aw (i:=2) jO.nd rfl (Or.inl rfl) am)
 (ae (bh PassesOwn.never rfl (dY (by rfl) T.range (af 1)) (cT (i:=3) jO.nd rfl (Or.inl rfl))
 (ak (aw (i:=2) jO.nd rfl (Or.inl rfl) (aK (l4) (af 2) (cB bZ (by rfl) T.len PySem.boot_len (ab (af 0) aj ai))))))
 (ak (aY (af 2)))))
theorem An (T:Tx K mg a):cu P w K mg base kx 2 a.du a.nL ["road","rounds","starts"] (lZ K 3 cM):=by
 have oa:=qz (P:=P) (w:=w) (base:=base) T
 refine gC (fb:=nC) 1 3 3 rfl rfl T.cM Ae λcdv A outer s H E hr=> ?_
 have bm:=hr.aZ
 exact(ak (aY (aK (l4) (cB bZ (by rfl) T.len PySem.boot_len (ab (af 2) aj ai)) (aD oa (hr.mono (by decide)) (by rfl) T.sw T.jt T.kD (E:=E0) bf (ab (af 0) (ab (af 1) aj ai) ai)))))
theorem Je (T:Tx K mg a):cu P w K mg base kx 1 a.iy a.vD ["things","length","number"] (lZ K 3 ip):=by
 refine gC (fb:=vB) 0 6 3 rfl rfl T.ip lG λcdv A outer s H E hr=> ?_
 have bm:=hr.aZ
 exact(ae (aw (i:=3) lG.nd rfl (Or.inl rfl) (bK aj))
 (ae (rc (i:=4) (j:=2) lG.nd rfl (Or.inl rfl) (pv 2))
 (ae (bh PassesOwn.never rfl (dY (by rfl) T.range (af 1)) (cT (i:=5) lG.nd rfl (Or.inl rfl))
 (ae (fC (i:=3) (pv 3) (aS iI (af 0) (aK (b_) (af 4) (cB bZ (by rfl) T.len PySem.boot_len (ab (af 0) aj ai))) (λ_ _=>rfl)))
 (ak (aw (i:=4) lG.nd rfl (Or.inl rfl) (aK (dH) (af 4) (cB bZ (by rfl) T.len PySem.boot_len (ab (af 0) aj ai)))))))
 (ak (aY (yF rfl (by rfl) T.tuple (by rfl) T.reversed (af 3)))))))
theorem Jf (T:Tx K mg a):cu P w K mg base kx 2 a.iz a.vE ["road","rounds","starts","number"] (lZ K 4 iq):=by
 have oa:=qz (P:=P) (w:=w) (base:=base) T
 have Mj:=Je (P:=P) (w:=w) (base:=base) T
 refine gC (fb:=vC) 1 5 4 rfl rfl T.iq yW λcdv A outer s H E hr=> ?_
 have bm:=hr.aZ
 exact(ae (aw (i:=4) yW.nd rfl (Or.inl rfl) (aD oa (hr.mono (by decide)) (by rfl) T.sw T.jt T.kD (E:=E0) bf (ab (af 0) (ab (af 1) aj ai) ai)))
 (ak (aY (eF (ab (aS iI (af 2) (aK (dH) (af 3) (af 4)) (λ_ _=>rfl)) (ab (aD Mj (hr.mono (by decide)) (by rfl) T.Mf T.qv T.vG (E:=E0) bf (ab (af 0) (ab (af 1) (ab (aK (b_) (af 3) (af 4)) aj) ai) ai)) aj) gx)))))
theorem Dj (T:Tx K mg a):cu P w K mg base kx 3 a.eM a.pP ["road","rounds","starts"] (lZ K 3 eI):=by
 have Dk:=An (P:=P) (w:=w) (base:=base) T
 have Mk:=Jf (P:=P) (w:=w) (base:=base) T
 refine gC (fb:=pN) 2 4 3 rfl rfl T.eI su λcdv A outer s H E hr=> ?_
 have bm:=hr.aZ
 exact(ae (aw (i:=3) su.nd rfl (Or.inl rfl) (aD Dk (hr.mono (by decide)) (by rfl) T.C7 T.kE T.nV (E:=E0) bf (ab (af 0) (ab (af 1) (ab (af 2) aj ai) ai) ai)))
 (ae (dX (bn (FA) (af 3) (NX (Nv (v:=.int 3000) (by rfl) T.Df ⟨_,rfl⟩) rfl λ_=>cx) (cj _))
 (ak Lw)
 bx)
 (ak (aY (iX rfl (F:=["road","rounds","starts"]) (ix:=[0,1,2]) ⟨rfl,rfl,by decide+kernel,by decide+kernel,by(change∀y∈(_:List (Str×NameKind)),y.2=NameKind.free->(ag fS).names.lookup y.1=some .cell∨(ag fS).names.lookup y.1=some .free);decide+kernel,by decide+kernel,by decide+kernel,rfl⟩ (dY (by rfl) T.range (af 3)) (λ_ _ _ _ _=>iW) (λ_ _ _ _ _=>(aD Mk (hr.mono (by decide)) (by rfl) T.Mg T.qw T.vH (E:=E0) bf (ab (af 1) (ab (af 2) (ab (af 3) (ab (af 0) aj ai) ai) ai) ai))))))))
theorem mT (T:Tx K mg a):cu P w K mg base kx 1 a.aV a.fW ["views","sharing","walked"] (Q_ K 2 aT):=by
 refine Vw (fb:=dm) 0 6 2 3 rfl rfl T.aT cX (by decide) (by decide) λcdv A outer s H E aa hr=> ?_
 have bm:=hr.aZ
 exact(CW (Q7 (i:=3) cX.nd rfl (Or.inl rfl) (bK aj))
 (CW (Q8 PassesOwn.never rfl (vh (by rfl) T.enumerate (af 0)) (Tf (is:=[4,5]) rfl (bY (cv (i:=4) cX.nd rfl (Or.inr rfl)) (bY (cv (i:=5) cX.nd rfl (Or.inl rfl)) ky)))
 (Hz (Te (bn (pH bm) (af 5) (af 2) (by rfl))
 (LK (Oc bm (i:=2) (pv 2) (af 5) p8)
 (Hz (Q9 (i:=3) (pv 3) (iX rfl (F:=["hand"]) (ix:=[4]) ⟨rfl,rfl,by decide+kernel,by decide+kernel,by(change∀y∈(_:List (Str×NameKind)),y.2=NameKind.free->(ag ba).names.lookup y.1=some .cell∨(ag ba).names.lookup y.1=some .free);decide+kernel,by decide+kernel,by decide+kernel,rfl⟩ (m_ (aS (Q4 bm) (af 1) (af 5) (λ_ _=>rfl))) (λ_ _ _ _ _=>iW) (λ_ _ _ _ _=>(eF (ab (af 1) (ab (af 0) aj ai) ai)))))))
 Ob)))
 (LL (pv 3))))
theorem Ao (T:Tx K mg a):cu P w K mg base kx 2 a.dv a.nM ["seen","sharing","first"] (lZ K 3 ee):=by
 have oe:=mT (P:=P) (w:=w) (base:=base) T
 refine gC (fb:=nD) 1 10 3 rfl rfl T.ee cE λcdv A outer s H E hr=> ?_
 have bm:=hr.aZ
 exact(ae (aw (i:=3) cE.nd rfl (Or.inl rfl) (Hx bm (af 2) ie))
 (ae (aw (i:=4) cE.nd rfl (Or.inl rfl) zX)
 (ae (aw (i:=5) cE.nd rfl (Or.inl rfl) (bK (ab (af 2) aj ai)))
 (ae (uU sI PassesOwn.never (bn (FA) (cB bZ (by rfl) T.len PySem.boot_len (ab (af 5) aj ai)) am (cj _))
 (ae (aw (i:=6) cE.nd rfl (Or.inl rfl) (bK aj))
 (ae (bh PassesOwn.never rfl (m_ (af 5)) (cT (i:=7) cE.nd rfl (Or.inl rfl))
 (ak (Od (iw:=4) PassesOwn.never rfl oe (hr.mono (by decide)) (by rfl) T.nY T.dC T.fX (E:=E0) bf (aS iI (af 0) (af 7) (λ_ _=>rfl)) (af 1) (pv 4) (uT (is:=[8,9]) rfl (bY (cv (i:=8) cE.nd rfl (Or.inl rfl)) (bY (cv (i:=9) cE.nd rfl (Or.inl rfl)) ky)))
 (ak (dX (bn (pH bm) (af 9) (af 3) (by rfl))
 (ae (Hw bm (i:=3) (pv 3) (af 9) (eF (ab (af 8) (ab (af 7) aj ai) ai)))
 (ak (fC (i:=6) (pv 6) (af 9))))
 bx)))))
 (ak (rc (i:=5) (j:=6) cE.nd rfl (Or.inl rfl) (pv 6))))))
 (ak (aY (af 3)))))))
theorem sT (T:Tx K mg a):cu P w K mg base kx 1 a.bQ a.kj ["seen"] (lZ K 1 cp):=by
 refine gC (fb:=kh) 0 5 1 rfl rfl T.cp eT λcdv A outer s H E hr=> ?_
 have bm:=hr.aZ
 exact(ae (aw (i:=1) eT.nd rfl (Or.inl rfl) zX)
 (ae (bh PassesOwn.never rfl (vh (by rfl) T.enumerate (af 0)) (uT (is:=[2,3]) rfl (bY (cv (i:=2) eT.nd rfl (Or.inl rfl)) (bY (cv (i:=3) eT.nd rfl (Or.inl rfl)) ky)))
 (ak (bh PassesOwn.never rfl (m_ (af 3)) (cT (i:=4) eT.nd rfl (Or.inl rfl))
 (ak (PB bm (i:=1) (j:=2) (pv 1) (af 4) (pv 2))))))
 (ak (aY (af 1)))))
theorem vQ (T:Tx K mg a):cu P w K mg base kx 6 a.ce a.k8 ["hands","road","rounds","starts","one","other"] (lZ K 6 bd):=by
 have vR:=sS (P:=P) (w:=w) (base:=base) T
 have Ml:=Jd (P:=P) (w:=w) (base:=base) T
 have Ga:=Dj (P:=P) (w:=w) (base:=base) T
 have Dl:=Ao (P:=P) (w:=w) (base:=base) T
 have vS:=sT (P:=P) (w:=w) (base:=base) T
 refine gC (fb:=jb) 5 7 6 rfl rfl T.bd nG λcdv A outer s H E hr=> ?_
 have bm:=hr.aZ
 exact(ae (aw (i:=6) nG.nd rfl (Or.inl rfl) (aD vR (hr.mono (by decide)) (by rfl) T.vI T.iB T.ko (E:=E0) bf (ab (af 0) (ab (aD Ga (hr.mono (by decide)) (by rfl) T.F5 T.mw T.pT (E:=E0) bf (ab (af 1) (ab (af 2) (ab (af 3) aj ai) ai) ai)) aj) ai)))
 (ak (aY (aD Ml (hr.mono (by decide)) (by rfl) T.Mh T.qx T.vK (E:=E0) bf (ab (aD Dl (hr.mono (by decide)) (by rfl) T.C8 T.kF T.nX (E:=E0) bf (ab (af 6) (ab (aD vS (hr.mono (by decide)) (by rfl) T.vJ T.iC T.kq (E:=E0) bf (ab (af 6) aj ai)) (ab (af 4) aj ai)) ai)) (ab (af 5) aj ai))))))
theorem xJ (T:Tx K mg a):cu P w K mg base kx 1 a.cF a.mn ["_law_found"] (lZ K 1 bt):=by
 refine gC (fb:=mj) 0 1 1 rfl rfl T.bt xB λcdv A outer s H E hr=> ?_
 have bm:=hr.aZ
 exact(ak (aY (FE (zI (by decide) (by rfl) T.isinstance (af 0) (um (v:=.ty "int") (by rfl) T.int PyProof.Rows.boot_int rfl)) (FD (QM (zI (by decide) (by rfl) T.isinstance (af 0) (um (v:=.ty "bool") (by rfl) T.bool PyProof.Rows.boot_bool rfl)))))))
theorem Ap (T:Tx K mg a):cu P w K mg base kx 2 a.dB a.nU ["_law_one","_law_other"] (lZ K 2 cq):=by
 have fY:=mL (P:=P) (w:=w) (base:=base) T
 refine gC (fb:=nE) 1 10 2 rfl rfl T.cq bO λcdv A outer s H E hr=> ?_
 have bm:=hr.aZ
 exact(ae (aw (i:=2) bO.nd rfl (Or.inl rfl) (cB bZ (by rfl) T.len PySem.boot_len (ab (aS iI (af 0) am (λ_ _=>rfl)) aj gx)))
 (ae (pE (i:=3) bO.nd rfl (Or.inl rfl) rfl (F:=["_law_one","_law_other"]) (ix:=[0,1]) ⟨rfl,rfl,by decide+kernel,by decide+kernel,by(change∀y∈(_:List (Str×NameKind)),y.2=NameKind.free->(ag eB).names.lookup y.1=some .cell∨(ag eB).names.lookup y.1=some .free);decide+kernel,by decide+kernel,by decide+kernel,rfl⟩ (dY (by rfl) T.range (af 2)) (λ_ _ _ _ _=>iW) (λ_ _ _ _ _=>(zA (lX bm) (aS iI (aS iI (af 1) am (λ_ _=>rfl)) (af 0) (λ_ _=>rfl)) (aS iI (aS iI (af 2) am (λ_ _=>rfl)) (af 0) (λ_ _=>rfl)) (cj _))) (by rfl))
 (ae (bh PassesOwn.never rfl (dY (by rfl) T.range (cB bZ (by rfl) T.len PySem.boot_len (ab (aS iI (af 0) am (λ_ _=>rfl)) aj gx))) (cT (i:=4) bO.nd rfl (Or.inl rfl))
 (ae (aw (i:=5) bO.nd rfl (Or.inl rfl) (bK aj))
 (ae (bh PassesOwn.never rfl (dY (by rfl) T.range (af 2)) (cT (i:=6) bO.nd rfl (Or.inl rfl))
 (ae (aw (i:=7) bO.nd rfl (Or.inl rfl) (aD fY (hr.mono (by decide)) (by rfl) T.iF T.cU T.dR (E:=E0) bf (ab (af 2) (ab (aS iI (aS iI (af 0) am (λ_ _=>rfl)) (af 4) (λ_ _=>rfl)) (ab (af 6) aj ai) gx) ai)))
 (ae (aw (i:=8) bO.nd rfl (Or.inl rfl) (FE (aS iI (af 3) (af 6) (λ_ _=>rfl)) (FD (zA (lX bm) (af 7) (aD fY (hr.mono (by decide)) (by rfl) T.iF T.cU T.dR (E:=E0) bf (ab (af 2) (ab (aS iI (aS iI (af 1) am (λ_ _=>rfl)) (af 4) (λ_ _=>rfl)) (ab (af 6) aj ai) gx) ai)) (cj _)))))
 (ae (bh PassesOwn.never rfl (m_ (af 7)) (cT (i:=9) bO.nd rfl (Or.inl rfl))
 (ak (aw (i:=8) bO.nd rfl (Or.inl rfl) (FE (af 8) (FD (aS iI (af 3) (af 9) (λ_ _=>rfl)))))))
 (ak (fC (i:=5) (pv 5) (af 8)))))))
 (ak (rc (i:=3) (j:=5) bO.nd rfl (Or.inl rfl) (pv 5))))))
 (ak (aY (af 3))))))
theorem Dm (T:Tx K mg a):cu P w K mg base kx 3 a.eP a.pS ["_law_runs_here","_law_hands","_law_first","_law_steps"] (lZ K 4 eK):=by
 have qA:=xJ (P:=P) (w:=w) (base:=base) T
 have Dn:=Ap (P:=P) (w:=w) (base:=base) T
 refine gC (fb:=pO) 2 6 4 rfl rfl T.eK nH λcdv A outer s H E hr=> ?_
 have bm:=hr.aZ
 exact(ae (dX (m9 (pB (zI (by decide) (by rfl) T.isinstance (af 3) (um (v:=.ty "list") (by rfl) T.list PyProof.Rows.boot_list rfl))))
 (ak (aY ie))
 bx)
 (ae (aw (i:=4) nH.nd rfl (Or.inl rfl) (bK (ab (af 2) aj ai)))
 (ae (bh PassesOwn.never rfl (m_ (af 3)) (cT (i:=5) nH.nd rfl (Or.inl rfl))
 (ae (dX (DW.dt (Cy (m9 (pB (zI (by decide) (by rfl) T.isinstance (af 5) (um (v:=.ty "tuple") (by rfl) T.tuple PyProof.Rows.boot_tuple rfl)))) (Cy (bn (pA bm) (cB bZ (by rfl) T.len PySem.boot_len (ab (af 5) aj ai)) am (cj _)) (Cy (m9 (pB (aD qA (hr.mono (by decide)) (by rfl) T.qy T.iD T.jQ (E:=E0) bf (ab (aS iI (af 5) am (λ_ _=>rfl)) aj gx)))) (FC (m9 (pB (aD qA (hr.mono (by decide)) (by rfl) T.qy T.iD T.jQ (E:=E0) bf (ab (aS iI (af 5) am (λ_ _=>rfl)) aj gx)))))))))
 (ak (aY ie))
 bx)
 (ae (dX (DW.dt (Cy (m9 (Cw (Lh) (zB) am (aS iI (af 5) am (λ_ _=>rfl)) (af 1))) (FC (m9 (Cw (Lh) (zB) am (aS iI (af 5) am (λ_ _=>rfl)) (cB bZ (by rfl) T.len PySem.boot_len (ab (af 0) aj ai)))))))
 (ak (aY ie))
 bx)
 (ae (dX (m9 (pB (aS iI (aD Dn (hr.mono (by decide)) (by rfl) T.De T.kK T.n9 (E:=E0) bf (ab (aS iI (af 0) (aS iI (af 4) (yz oD am) (λ_ _=>rfl)) (λ_ _=>rfl)) (ab (aS iI (af 0) (aS iI (af 5) am (λ_ _=>rfl)) (λ_ _=>rfl)) aj gx) gx)) (aS iI (af 5) am (λ_ _=>rfl)) (λ_ _=>rfl))))
 (ak (aY ie))
 bx)
 (ak (fC (i:=4) (pv 4) (aS iI (af 5) am (λ_ _=>rfl))))))))
 (ak (aY (af 4))))))
theorem Rt (T:Tx K mg a):cu P w K mg base kx 7 a.sv a.Me ["_law_script"] (lZ K 1 mK):=by
 have Dp:=Ak (P:=P) (w:=w) (base:=base) T
 have Dq:=Al (P:=P) (w:=w) (base:=base) T
 have Aq:=xI (P:=P) (w:=w) (base:=base) T
 have xK:=vP (P:=P) (w:=w) (base:=base) T
 have ku:=n_ (P:=P) (w:=w) (base:=base) T
 have o5:=vQ (P:=P) (w:=w) (base:=base) T
 have Gb:=Dm (P:=P) (w:=w) (base:=base) T
 have aQ:=eU (P:=P) (w:=w) (base:=base) T
 refine gC (fb:=Md) 6 15 1 rfl rfl T.mK gV λcdv A outer s H E hr=> ?_
 have bm:=hr.aZ
 exact(ae (QP (aD Dp (hr.mono (by decide)) (by rfl) T.C_ T.kH T.n5 (E:=E0) bf (ab (af 0) aj ai)) (uT (is:=[1,2,3,4]) rfl (bY (cv (i:=1) gV.nd rfl (Or.inl rfl)) (bY (cv (i:=2) gV.nd rfl (Or.inl rfl)) (bY (cv (i:=3) gV.nd rfl (Or.inl rfl)) (bY (cv (i:=4) gV.nd rfl (Or.inl rfl)) ky))))))
 (ae (aw (i:=5) gV.nd rfl (Or.inl rfl) (aD Dq (hr.mono (by decide)) (by rfl) T.Dc T.kI T.n6 (E:=E0) bf (ab (af 2) (ab (af 3) (ab (af 4) aj ai) ai) ai)))
 (ae (aw (i:=6) gV.nd rfl (Or.inl rfl) (aD Aq (hr.mono (by decide)) (by rfl) T.Ah T.jS T.mz (E:=E0) bf (ab (cB bZ (by rfl) T.len PySem.boot_len (ab (af 5) aj ai)) (ab (aD xK (hr.mono (by decide)) (by rfl) T.xE T.jh T.lj (E:=E0) bf (ab (af 1) (ab (af 5) aj ai) ai)) aj))))
 (ae (aw (i:=7) gV.nd rfl (Or.inr rfl) (aK (b_) (aD ku (hr.mono (by decide)) (by rfl) T.pV T.iU T.kr (E:=E0) bf (ab (aD aQ (hr.mono (by decide)) (by rfl) T.bp T.aW T.a7 (E:=E0) bf (ab (af 0) (ab am aj cz) ai)) (ab am aj cz))) (cB bZ (by rfl) T.len PySem.boot_len (ab (af 5) aj ai))))
 (ae (aw (i:=8) gV.nd rfl (Or.inl rfl) (bK (ab (cR pD (by rfl) T.list PyProof.Rows.boot_list (ab (af 2) aj ai)) (ab (cR pD (by rfl) T.list PyProof.Rows.boot_list (ab (af 4) aj ai)) aj))))
 (ae (bh PassesOwn.never rfl (dY (by rfl) T.range am) (cT (i:=9) gV.nd rfl (Or.inl rfl))
 (ae (aw (i:=10) gV.nd rfl (Or.inl rfl) (aD o5 (hr.mono (by decide)) (by rfl) T.o4 T.gK T.je (E:=E0) bf (ab (af 1) (ab (aS iI (af 8) am (λ_ _=>rfl)) (ab (af 3) (ab (aS iI (af 8) am (λ_ _=>rfl)) (ab (af 7) (ab (af 7) aj ai) ai) gx) ai) gx) ai)))
 (ae (dX (bn (pA bm) (af 10) (bK aj) (cj _))
 (ak (aY p8))
 bx)
 (ak (fC (i:=10) (pv 10) (eF (ab am (ab (af 7) aj ai) cz)))))))
 (ae (bh PassesOwn.never rfl (m_ (aK (dF) (Ly (aS iI (af 6) am (λ_ _=>rfl)) (uX (yz oD am)) uW) (Ly (aS iI (af 6) (yz oD am) (λ_ _=>rfl)) (uX (yz oD am)) uW))) (cT (i:=11) gV.nd rfl (Or.inr rfl))
 (ae (aw (i:=12) gV.nd rfl (Or.inl rfl) (aD o5 (hr.mono (by decide)) (by rfl) T.o4 T.gK T.je (E:=E0) bf (ab (af 1) (ab (aS iI (af 8) am (λ_ _=>rfl)) (ab (af 3) (ab (aS iI (af 8) am (λ_ _=>rfl)) (ab (af 7) (ab (af 11) aj ai) ai) gx) ai) gx) ai)))
 (ae (aw (i:=13) gV.nd rfl (Or.inl rfl) (zA (pA bm) (iX rfl (F:=["_law_one","_law_other"]) (ix:=[7,11]) ⟨rfl,rfl,by decide+kernel,by decide+kernel,by(change∀y∈(_:List (Str×NameKind)),y.2=NameKind.free->(ag nJ).names.lookup y.1=some .cell∨(ag nJ).names.lookup y.1=some .free);decide+kernel,by decide+kernel,by decide+kernel,rfl⟩ (m_ (af 6)) (λ_ _ _ _ _=>(zJ (DW.dt (zD (bn (uR bm) (af 1) (af 0) (by rfl)) (uv (bn (uR bm) (af 2) (af 0) (by rfl))))))) (λ_ _ _ _ _=>(af 0))) (bK aj) (cj _)))
 (ae (dX (m9 (pB (af 13)))
 (ae (dX (bn (q_) (af 12) ie (cj _))
 (ak (aY p8))
 bx)
 (ak QO))
 bx)
 (ae (aw (i:=14) gV.nd rfl (Or.inl rfl) (aD Gb (hr.mono (by decide)) (by rfl) T.F8 T.mB T.pX (E:=E0) bf (ab (af 5) (ab (af 1) (ab (af 7) (ab (af 12) aj ai) ai) ai) ai)))
 (ak (dX (DW.dt (Cy (bn (QL) (af 14) ie (cj _)) (FC (bn (pA bm) (aS iI (af 14) (yz oD am) (λ_ _=>rfl)) (af 11) (cj _)))))
 (ak (aY p8))
 bx)))))))
 (ak (aY (zA (lX bm) (af 8) (bK (ab (af 2) (ab (af 4) aj ai) ai)) (cj _)))))))))))
end
theorem Sf {P:List Value->Prop}(h:∀a0,P [a0]):∀us:List Value,us.length=1->P us
 | [a0],_=>h a0
theorem Jg {P:List Value->Prop}(h:∀a0 a1,P [a0,a1]):∀us:List Value,us.length=2->P us
 | [a0,a1],_=>h a0 a1
theorem Mn {P:List Value->Prop}(h:∀a0 a1 a2,P [a0,a1,a2]):∀us:List Value,us.length=3->P us
 | [a0,a1,a2],_=>h a0 a1 a2
theorem Wt {P:List Value->Prop}(h:∀a0 a1 a2 a3,P [a0,a1,a2,a3]):∀us:List Value,us.length=4->P us
 | [a0,a1,a2,a3],_=>h a0 a1 a2 a3
theorem Xl {P:List Value->Prop}(h:∀a0 a1 a2 a3 a4 a5,P [a0,a1,a2,a3,a4,a5]):∀us:List Value,us.length=6->P us
 | [a0,a1,a2,a3,a4,a5],_=>h a0 a1 a2 a3 a4 a5
theorem all_mk {l:OpenLaw}{w:World}{K:Frag}{h:Heap}{mg:Str->Option Value}{fa dq iy du iz eM gj mm bG bH ce bP eN bQ dv aV iA bR eO cF cG bS dw cf cg dy dz bT dA ci cH dB eP sv:Addr}{kC:Nat}(X:K.In h)(G:h.Ns mainGlobals mg)(hfa:mg "law" =some (.ref fa))
  {Ar As Jh Ji Au Aw Jj Jl Dr Ds Gc Gd OH OI rB rC rD rE vT vU sU sV Dt Du sW sX Ax Ay mU mV Jm Jn sY sZ Dv Dw xL xM xN xO s_ td Az AA vV vW vX vY AB AD AE AF tf tj AG AH vZ v5 xP xQ AI AJ Dx Dy Ru Mo:Option Addr} {AK Jo AL Jp Dz Ge OJ rF rG v6 tm DB tq AM mW Jq tu DC xR xS tv AN v7 v8 AO AQ tw AR v9 xT AS DD Rv:Array (Option Value)} {AT AU AV AW qB AX Jr Js Jt Jv yX Jw AY AZ A0 A1 qC A2 Jy Jz JA JB yY JC DF DH DJ DK sx DL Gf Gg Gh Gi v_ Gj OK OL OM ON HE OO rH rJ rK rM lK rN rO rP rQ rR lM rS wc wd wg wj og wk tx tz tF tH mM tJ DM DN DO DP sy DQ tK tM tP tQ mN tR A3 A4 A5 A6 qD A7 mX mY mZ m4 iM m5 JD JE JF JG yZ JH tS tU tV tW mO tX DR DU DV DX sC DY xU xV xW xX o6 xY xZ x0 x3 x4 o8 x5 tY t0 t5 t6 mP t7 A8 A9 A_ Ba qE Bb wm wn wo wq oh wu wv wx wy wz oj wA Bc Bd Be Bf qF Bg Bh Bi Bj Bk qG Bl t8 t9 t_ ua mQ ub Bm Bn Bo Bp qH Bq wB wC wD wF om wG x6 x8 x9 x_ o9 ya Br Bs Bt Bu qI Bv DZ D0 D1 D2 sD D3 Rw Mp Mq Mr Gk Ms:Value}
  (D4:nsIn K mainGlobals "many_rows" =some (some (.ref dq))) (D5:K.lookup dq=some ⟨AT,Ar,.func (fnOf "many_rows" "many_rows" (aO gZ) (aH gZ) (ag gZ) .none AU AV AW As qB AX),AK⟩) (D6:codeIn K qB "many_rows" =true) (jt:keepIn K (.ref dq)=true)
  (Mt:nsIn K mainGlobals "row_at" =some (some (.ref iy))) (Mu:K.lookup iy=some ⟨Jr,Jh,.func (fnOf "row_at" "row_at" (aO lF) (aH lF) (ag lF) .none Js Jt Jv Ji yX Jw),Jo⟩) (Mv:codeIn K yX "row_at" =true) (qv:keepIn K (.ref iy)=true)
  (D7:nsIn K mainGlobals "many_runs" =some (some (.ref du))) (D8:K.lookup du=some ⟨AY,Au,.func (fnOf "many_runs" "many_runs" (aO g5) (aH g5) (ag g5) .none AZ A0 A1 Aw qC A2),AL⟩) (D9:codeIn K qC "many_runs" =true) (kE:keepIn K (.ref du)=true)
  (Mw:nsIn K mainGlobals "run_at" =some (some (.ref iz))) (Mx:K.lookup iz=some ⟨Jy,Jj,.func (fnOf "run_at" "run_at" (aO lH) (aH lH) (ag lH) .none Jz JA JB Jl yY JC),Jp⟩) (Mz:codeIn K yY "run_at" =true) (qw:keepIn K (.ref iz)=true)
  (Gm:nsIn K mainGlobals "all_runs" =some (some (.ref eM))) (Gn:K.lookup eM=some ⟨DF,Dr,.func (fnOf "all_runs" "all_runs" (aO fS) (aH fS) (ag fS) .none DH DJ DK Ds sx DL),Dz⟩) (Gq:codeIn K sx "all_runs" =true) (mw:keepIn K (.ref eM)=true)
  (JI:nsIn K mainGlobals "came_to" =some (some (.ref gj))) (JJ:K.lookup gj=some ⟨Gf,Gc,.func (fnOf "came_to" "came_to" (aO g6) (aH g6) (ag g6) .none Gg Gh Gi Gd v_ Gj),Ge⟩) (JK:codeIn K v_ "came_to" =true) (oS:keepIn K (.ref gj)=true)
  (Rx:nsIn K mainGlobals "view" =some (some (.ref mm))) (Ry:K.lookup mm=some ⟨OK,OH,.func (fnOf "view" "view" (aO nF) (aH nF) (ag nF) .none OL OM ON OI HE OO),OJ⟩) (Rz:codeIn K HE "view" =true) (Af:keepIn K (.ref mm)=true)
  (uc:nsIn K mainGlobals "came_to_heard" =some (some (.ref bG))) (ud:K.lookup bG=some ⟨rH,rB,.func (fnOf "came_to_heard" "came_to_heard" (aO bW) (aH bW) (ag bW) .none rJ rK rM rC lK rN),rF⟩) (ue:codeIn K lK "came_to_heard" =true) (gP:keepIn K (.ref bG)=true)
  (uf:nsIn K mainGlobals "heard_earlier" =some (some (.ref bH))) (ug:K.lookup bH=some ⟨rO,rD,.func (fnOf "heard_earlier" "heard_earlier" (aO dc) (aH dc) (ag dc) .none rP rQ rR rE lM rS),rG⟩) (uh:codeIn K lM "heard_earlier" =true) (gQ:keepIn K (.ref bH)=true)
  (yb:nsIn K mainGlobals "row_between" =some (some (.ref ce))) (yc:K.lookup ce=some ⟨wc,vT,.func (fnOf "row_between" "row_between" (aO fu) (aH fu) (ag fu) .none wd wg wj vU og wk),v6⟩) (yd:codeIn K og "row_between" =true) (gK:keepIn K (.ref ce)=true)
  (wH:nsIn K mainGlobals "views_of_all" =some (some (.ref bP))) (wI:K.lookup bP=some ⟨tx,sU,.func (fnOf "views_of_all" "views_of_all" (aO cr) (aH cr) (ag cr) .none tz tF tH sV mM tJ),tm⟩) (wJ:codeIn K mM "views_of_all" =true) (iB:keepIn K (.ref bP)=true)
  (Gr:nsIn K mainGlobals "views_in" =some (some (.ref eN))) (Gs:K.lookup eN=some ⟨DM,Dt,.func (fnOf "views_in" "views_in" (aO fU) (aH fU) (ag fU) .none DN DO DP Du sy DQ),DB⟩) (Gu:codeIn K sy "views_in" =true) (mx:keepIn K (.ref eN)=true)
  (wK:nsIn K mainGlobals "runs_by_view" =some (some (.ref bQ))) (wL:K.lookup bQ=some ⟨tK,sW,.func (fnOf "runs_by_view" "runs_by_view" (aO dM) (aH dM) (ag dM) .none tM tP tQ sX mN tR),tq⟩) (wM:codeIn K mN "runs_by_view" =true) (iC:keepIn K (.ref bQ)=true)
  (D_:nsIn K mainGlobals "ways_from" =some (some (.ref dv))) (Ea:K.lookup dv=some ⟨A3,Ax,.func (fnOf "ways_from" "ways_from" (aO g7) (aH g7) (ag g7) .none A4 A5 A6 Ay qD A7),AM⟩) (Eb:codeIn K qD "ways_from" =true) (kF:keepIn K (.ref dv)=true)
  (oq:nsIn K mainGlobals "steps_by_new_views" =some (some (.ref aV))) (ou:K.lookup aV=some ⟨mX,mU,.func (fnOf "steps_by_new_views" "steps_by_new_views" (aO ba) (aH ba) (ag ba) .none mY mZ m4 mV iM m5),mW⟩) (ow:codeIn K iM "steps_by_new_views" =true) (dC:keepIn K (.ref aV)=true)
  (MA:nsIn K mainGlobals "row_to" =some (some (.ref iA))) (MB:K.lookup iA=some ⟨JD,Jm,.func (fnOf "row_to" "row_to" (aO lI) (aH lI) (ag lI) .none JE JF JG Jn yZ JH),Jq⟩) (MC:codeIn K yZ "row_to" =true) (qx:keepIn K (.ref iA)=true)
  (wN:nsIn K mainGlobals "_law_cell_at" =some (some (.ref bR))) (wO:K.lookup bR=some ⟨tS,sY,.func (fnOf "_law_cell_at" "_law_cell_at" (aO dN) (aH dN) (ag dN) .none tU tV tW sZ mO tX),tu⟩) (wQ:codeIn K mO "_law_cell_at" =true) (aW:keepIn K (.ref bR)=true)
  (Gv:nsIn K mainGlobals "_law_mix" =some (some (.ref eO))) (Gw:K.lookup eO=some ⟨DR,Dv,.func (fnOf "_law_mix" "_law_mix" (aO iS) (aH iS) (ag iS) .none DU DV DX Dw sC DY),DC⟩) (Gx:codeIn K sC "_law_mix" =true) (iU:keepIn K (.ref eO)=true)
  (Bw:nsIn K mainGlobals "_law_whole" =some (some (.ref cF))) (Bx:K.lookup cF=some ⟨xU,xL,.func (fnOf "_law_whole" "_law_whole" (aO f_) (aH f_) (ag f_) .none xV xW xX xM o6 xY),xR⟩) (By:codeIn K o6 "_law_whole" =true) (iD:keepIn K (.ref cF)=true)
  (Bz:nsIn K mainGlobals "_law_pairs" =some (some (.ref cG))) (BA:K.lookup cG=some ⟨xZ,xN,.func (fnOf "_law_pairs" "_law_pairs" (aO gc) (aH gc) (ag gc) .none x0 x3 x4 xO o8 x5),xS⟩) (BB:codeIn K o8 "_law_pairs" =true) (jR:keepIn K (.ref cG)=true)
  (wR:nsIn K mainGlobals "_law_weather" =some (some (.ref bS))) (wU:K.lookup bS=some ⟨tY,s_,.func (fnOf "_law_weather" "_law_weather" (aO dO) (aH dO) (ag dO) .none t0 t5 t6 td mP t7),tv⟩) (wV:codeIn K mP "_law_weather" =true) (iE:keepIn K (.ref bS)=true)
  (Ec:nsIn K mainGlobals "_law_road" =some (some (.ref dw))) (Ed:K.lookup dw=some ⟨A8,Az,.func (fnOf "_law_road" "_law_road" (aO g9) (aH g9) (ag g9) .none A9 A_ Ba AA qE Bb),AN⟩) (Ee:codeIn K qE "_law_road" =true) (kG:keepIn K (.ref dw)=true)
  (ye:nsIn K mainGlobals "_law_values" =some (some (.ref cf))) (yf:K.lookup cf=some ⟨wm,vV,.func (fnOf "_law_values" "_law_values" (aO fx) (aH fx) (ag fx) .none wn wo wq vW oh wu),v7⟩) (yg:codeIn K oh "_law_values" =true) (jf:keepIn K (.ref cf)=true)
  (yh:nsIn K mainGlobals "_law_starts" =some (some (.ref cg))) (yi:K.lookup cg=some ⟨wv,vX,.func (fnOf "_law_starts" "_law_starts" (aO cO) (aH cO) (ag cO) .none wx wy wz vY oj wA),v8⟩) (yj:codeIn K oj "_law_starts" =true) (jg:keepIn K (.ref cg)=true)
  (Ef:nsIn K mainGlobals "_law_case" =some (some (.ref dy))) (Eg:K.lookup dy=some ⟨Bc,AB,.func (fnOf "_law_case" "_law_case" (aO g_) (aH g_) (ag g_) .none Bd Be Bf AD qF Bg),AO⟩) (Eh:codeIn K qF "_law_case" =true) (kH:keepIn K (.ref dy)=true)
  (Ei:nsIn K mainGlobals "_law_runs" =some (some (.ref dz))) (Ej:K.lookup dz=some ⟨Bh,AE,.func (fnOf "_law_runs" "_law_runs" (aO hJ) (aH hJ) (ag hJ) .none Bi Bj Bk AF qG Bl),AQ⟩) (Ek:codeIn K qG "_law_runs" =true) (kI:keepIn K (.ref dz)=true)
  (wW:nsIn K mainGlobals "_law_senders" =some (some (.ref bT))) (wX:K.lookup bT=some ⟨t8,tf,.func (fnOf "_law_senders" "_law_senders" (aO dQ) (aH dQ) (ag dQ) .none t9 t_ ua tj mQ ub),tw⟩) (wY:codeIn K mQ "_law_senders" =true) (cU:keepIn K (.ref bT)=true)
  (El:nsIn K mainGlobals "_law_view" =some (some (.ref dA))) (Em:K.lookup dA=some ⟨Bm,AG,.func (fnOf "_law_view" "_law_view" (aO eA) (aH eA) (ag eA) .none Bn Bo Bp AH qH Bq),AR⟩) (En:codeIn K qH "_law_view" =true) (kJ:keepIn K (.ref dA)=true)
  (yk:nsIn K mainGlobals "_law_groups" =some (some (.ref ci))) (ym:K.lookup ci=some ⟨wB,vZ,.func (fnOf "_law_groups" "_law_groups" (aO fy) (aH fy) (ag fy) .none wC wD wF v5 om wG),v9⟩) (yn:codeIn K om "_law_groups" =true) (jh:keepIn K (.ref ci)=true)
  (BC:nsIn K mainGlobals "_law_parts" =some (some (.ref cH))) (BD:K.lookup cH=some ⟨x6,xP,.func (fnOf "_law_parts" "_law_parts" (aO cc) (aH cc) (ag cc) .none x8 x9 x_ xQ o9 ya),xT⟩) (BE:codeIn K o9 "_law_parts" =true) (jS:keepIn K (.ref cH)=true)
  (Eo:nsIn K mainGlobals "_law_same" =some (some (.ref dB))) (Ep:K.lookup dB=some ⟨Br,AI,.func (fnOf "_law_same" "_law_same" (aO eB) (aH eB) (ag eB) .none Bs Bt Bu AJ qI Bv),AS⟩) (Er:codeIn K qI "_law_same" =true) (kK:keepIn K (.ref dB)=true)
  (Gy:nsIn K mainGlobals "_law_row" =some (some (.ref eP))) (Gz:K.lookup eP=some ⟨DZ,Dx,.func (fnOf "_law_row" "_law_row" (aO iT) (aH iT) (ag iT) .none D0 D1 D2 Dy sD D3),DD⟩) (GA:codeIn K sD "_law_row" =true) (mB:keepIn K (.ref eP)=true)
  (PJ:nsIn K mainGlobals "law" =some (some (.ref sv))) (Tq:K.lookup sv=some ⟨Rw,Ru,.func (fnOf "law" "law" (aO nJ) (aH nJ) (ag nJ) .none Mp Mq Mr Mo Gk Ms),Rv⟩) (Tr:codeIn K Gk "law" =true) (Mi:keepIn K (.ref sv)=true)
  (RA:nsIn K mainGlobals "bool" =some none)
  (RB:nsIn K mainGlobals "dict" =some none)
  (Es:nsIn K mainGlobals "enumerate" =some none)
  (Ts:nsIn K mainGlobals "int" =some none)
  (BF:nsIn K mainGlobals "isinstance" =some none)
  (Tt:nsIn K mainGlobals "len" =some none)
  (RC:nsIn K mainGlobals "list" =some none)
  (Tu:nsIn K mainGlobals "min" =some none)
  (OP:nsIn K mainGlobals "range" =some none)
  (GB:nsIn K mainGlobals "reversed" =some none)
  (Tv:nsIn K mainGlobals "set" =some none)
  (MD:nsIn K mainGlobals "sorted" =some none)
  (OQ:nsIn K mainGlobals "tuple" =some none)
  (Et:nsIn K mainGlobals "MOST_RUNS" =some (some (.int 3000 kC)))
  :∃fd:FuncData,(∀(s:Shared) (v:Value),BindsTo s fd ⟨[v],[]⟩ [("_law_script",v)])/\∀base:Heap,K.In base->base.Ns mainGlobals mg->cu l.prog w K mg base kx 7 fa fd ["_law_script"] (lZ K 1 mK):=by
 have e:=hfa.symm.trans (mg_of X G PJ)
 cases e
 have cL:=bu (st:=gZ) D5 D6 jt
 have ip:=bu (st:=lF) Mu Mv qv
 have cM:=bu (st:=g5) D8 D9 kE
 have iq:=bu (st:=lH) Mx Mz qw
 have eI:=bu (st:=fS) Gn Gq mw
 have f7:=bu (st:=g6) JJ JK oS
 have kX:=bu (st:=nF) Ry Rz Af
 have bE:=bu (st:=bW) ud ue gP
 have bF:=bu (st:=dc) ug uh gQ
 have bd:=bu (st:=fu) yc yd gK
 have bN:=bu (st:=cr) wI wJ iB
 have eH:=bu (st:=fU) Gs Gu mx
 have cp:=bu (st:=dM) wL wM iC
 have ee:=bu (st:=g7) Ea Eb kF
 have aT:=bu (st:=ba) ou ow dC
 have im:=bu (st:=lI) MB MC qx
 have az:=bu (st:=dN) wO wQ aW
 have bJ:=bu (st:=iS) Gw Gx iU
 have bt:=bu (st:=f_) Bx By iD
 have di:=bu (st:=gc) BA BB jR
 have bA:=bu (st:=dO) wU wV iE
 have d_:=bu (st:=g9) Ed Ee kG
 have bB:=bu (st:=fx) yf yg jf
 have cJ:=bu (st:=cO) yi yj jg
 have cm:=bu (st:=g_) Eg Eh kH
 have dk:=bu (st:=hJ) Ej Ek kI
 have bb:=bu (st:=dQ) wX wY cU
 have cK:=bu (st:=eA) Em En kJ
 have ca:=bu (st:=fy) ym yn jh
 have cD:=bu (st:=cc) BD BE jS
 have cq:=bu (st:=eB) Ep Er kK
 have eK:=bu (st:=iT) Gz GA mB
 have mK:=bu (st:=nJ) Tq Tr Mi
 have kD:=cL.binds (ps:=["things","length"]) λ_ _ _ _ _ _=>Jg λ_ _=>rfl
 have vG:=ip.binds (ps:=["things","length","number"]) λ_ _ _ _ _ _=>Mn λ_ _ _=>rfl
 have nV:=cM.binds (ps:=["road","rounds","starts"]) λ_ _ _ _ _ _=>Mn λ_ _ _=>rfl
 have vH:=iq.binds (ps:=["road","rounds","starts","number"]) λ_ _ _ _ _ _=>Wt λ_ _ _ _=>rfl
 have pT:=eI.binds (ps:=["road","rounds","starts"]) λ_ _ _ _ _ _=>Mn λ_ _ _=>rfl
 have rq:=f7.binds (ps:=["hands","weather","hand"]) λ_ _ _ _ _ _=>Mn λ_ _ _=>rfl
 have F6:=kX.binds (ps:=["run","hand"]) λ_ _ _ _ _ _=>Jg λ_ _=>rfl
 have jC:=bE.binds (ps:=["hands","weather","heard"]) λ_ _ _ _ _ _=>Mn λ_ _ _=>rfl
 have jD:=bF.binds (ps:=["heard","came_here"]) λ_ _ _ _ _ _=>Jg λ_ _=>rfl
 have je:=bd.binds (ps:=["hands","road","rounds","starts","one","other"]) λ_ _ _ _ _ _=>Xl λ_ _ _ _ _ _=>rfl
 have ko:=bN.binds (ps:=["hands","runs"]) λ_ _ _ _ _ _=>Jg λ_ _=>rfl
 have pU:=eH.binds (ps:=["hands","run"]) λ_ _ _ _ _ _=>Jg λ_ _=>rfl
 have kq:=cp.binds (ps:=["seen"]) λ_ _ _ _ _ _=>Sf λ_=>rfl
 have nX:=ee.binds (ps:=["seen","sharing","first"]) λ_ _ _ _ _ _=>Mn λ_ _ _=>rfl
 have fX:=aT.binds (ps:=["views","sharing","walked"]) λ_ _ _ _ _ _=>Mn λ_ _ _=>rfl
 have vK:=im.binds (ps:=["ways","goal"]) λ_ _ _ _ _ _=>Jg λ_ _=>rfl
 have a7:=az.binds (ps:=["_law_script","_law_k"]) λ_ _ _ _ _ _=>Jg λ_ _=>rfl
 have kr:=bJ.binds (ps:=["_law_cell","_law_k"]) λ_ _ _ _ _ _=>Jg λ_ _=>rfl
 have jQ:=bt.binds (ps:=["_law_found"]) λ_ _ _ _ _ _=>Sf λ_=>rfl
 have my:=di.binds (ps:=["_law_hands"]) λ_ _ _ _ _ _=>Sf λ_=>rfl
 have kt:=bA.binds (ps:=["_law_number","_law_hands"]) λ_ _ _ _ _ _=>Jg λ_ _=>rfl
 have nZ:=d_.binds (ps:=["_law_script","_law_hands","_law_many"]) λ_ _ _ _ _ _=>Mn λ_ _ _=>rfl
 have lg:=bB.binds (ps:=["_law_script"]) λ_ _ _ _ _ _=>Sf λ_=>rfl
 have lh:=cJ.binds (ps:=["_law_script","_law_hands","_law_many"]) λ_ _ _ _ _ _=>Mn λ_ _ _=>rfl
 have n5:=cm.binds (ps:=["_law_script"]) λ_ _ _ _ _ _=>Sf λ_=>rfl
 have n6:=dk.binds (ps:=["_law_road_here","_law_rounds","_law_starts_here"]) λ_ _ _ _ _ _=>Mn λ_ _ _=>rfl
 have dR:=bb.binds (ps:=["_law_hands","_law_weather_here","_law_hand"]) λ_ _ _ _ _ _=>Mn λ_ _ _=>rfl
 have n8:=cK.binds (ps:=["_law_run","_law_hand"]) λ_ _ _ _ _ _=>Jg λ_ _=>rfl
 have lj:=ca.binds (ps:=["_law_hands","_law_runs_here"]) λ_ _ _ _ _ _=>Jg λ_ _=>rfl
 have mz:=cD.binds (ps:=["_law_many","_law_groups_here"]) λ_ _ _ _ _ _=>Jg λ_ _=>rfl
 have n9:=cq.binds (ps:=["_law_one","_law_other"]) λ_ _ _ _ _ _=>Jg λ_ _=>rfl
 have pX:=eK.binds (ps:=["_law_runs_here","_law_hands","_law_first","_law_steps"]) λ_ _ _ _ _ _=>Wt λ_ _ _ _=>rfl
 have PH:=mK.binds (ps:=["_law_script"]) λ_ _ _ _ _ _=>Sf λ_=>rfl
 have T:Tx K mg ⟨dq,_,iy,_,du,_,iz,_,eM,_,gj,_,mm,_,bG,_,bH,_,ce,_,bP,_,eN,_,bQ,_,dv,_,aV,_,iA,_,bR,_,eO,_,cF,_,cG,_,bS,_,dw,_,cf,_,cg,_,dy,_,dz,_,bT,_,dA,_,ci,_,cH,_,dB,_,eP,_,fa,_,kC⟩:=⟨cL,mg_of X G D4,jt,kD,ip,mg_of X G Mt,qv,vG,cM,mg_of X G D7,kE,nV,iq,mg_of X G Mw,qw,vH,eI,mg_of X G Gm,mw,pT,f7,mg_of X G JI,oS,rq,kX,mg_of X G Rx,Af,F6,bE,mg_of X G uc,gP,jC,bF,mg_of X G uf,gQ,jD,bd,mg_of X G yb,gK,je,bN,mg_of X G wH,iB,ko,eH,mg_of X G Gr,mx,pU,cp,mg_of X G wK,iC,kq,ee,mg_of X G D_,kF,nX,aT,mg_of X G oq,dC,fX,im,mg_of X G MA,qx,vK,az,mg_of X G wN,aW,a7,bJ,mg_of X G Gv,iU,kr,bt,mg_of X G Bw,iD,jQ,di,mg_of X G Bz,jR,my,bA,mg_of X G wR,iE,kt,d_,mg_of X G Ec,kG,nZ,bB,mg_of X G ye,jf,lg,cJ,mg_of X G yh,jg,lh,cm,mg_of X G Ef,kH,n5,dk,mg_of X G Ei,kI,n6,bb,mg_of X G wW,cU,dR,cK,mg_of X G El,kJ,n8,ca,mg_of X G yk,jh,lj,cD,mg_of X G BC,jS,mz,cq,mg_of X G Eo,kK,n9,eK,mg_of X G Gy,mB,pX,mK,mg_of X G PJ,Mi,PH,PySem.W.mg_none_of X G RA,PySem.W.mg_none_of X G RB,PySem.W.mg_none_of X G Es,PySem.W.mg_none_of X G Ts,PySem.W.mg_none_of X G BF,PySem.W.mg_none_of X G Tt,PySem.W.mg_none_of X G RC,PySem.W.mg_none_of X G Tu,PySem.W.mg_none_of X G OP,PySem.W.mg_none_of X G GB,PySem.W.mg_none_of X G Tv,PySem.W.mg_none_of X G MD,PySem.W.mg_none_of X G OQ,mg_of X G Et⟩
 exact⟨fnOf "law" "law" (aO nJ) (aH nJ) (ag nJ) .none Mp Mq Mr Mo Gk Ms,λs v=> .of_eq rfl,λbase _ _=>Rt T⟩
theorem walk (Tw:∀ns:List Int,ns.length<=63->∃o,mK [.list (ns.map PyData.int)]=some (.ok (o,.bool true))){l:OpenLaw}{q:Program}{loose:List Str}{XP:(Str->Option Value)->Heap->Prop}{YP:World->Heap->Prop}{d:DefRec}{K:Params->Frag}(hn:l.most=some 63)(hdf:d.params.defaults=[])
  (hY:∀(w:World) (h:Heap),YP w h->(K w.params).In h)
  (F:∀(w:World) (mg:Str->Option Value) (fa:Addr) (h:Heap),(K w.params).In h->h.Ns mainGlobals mg->mg d.name=some (.ref fa)->
   ∃fd:FuncData,(∀(s:Shared) (u:Value),BindsTo s fd ⟨[u],[]⟩ [("_law_script",u)])/\∀base:Heap,(K w.params).In base->base.Ns mainGlobals mg->cu l.prog w (K w.params) mg base kx 7 fa fd ["_law_script"] (lZ (K w.params) 1 mK)) :
  PySem.W.WalkO q loose XP YP l.row.toRowW d [] (λf vs=>PySem.call f vs) :=
 L2.NM (n:=63) (k:=7) (x:="_law_script") (CX:=λ_=>kx) (sp:=λw=>lZ (K w.params) 1 mK) hn (by decide) hdf ⟨rfl,by decide,by decide⟩ hY F (λ_ _ a ns hl _ hS=>Lx hS (Tw ns hl)) λ_ _ _ _ _ z=>z
end K32
namespace K32
open PySem Y
def aI {a b:Prop}(x:a)(y:b):=And.intro x y
def rn:=aI @eS.eq_1<|aI @eD.eq_1<|aI @au.eq_1<|aI @jm.eq_1<|aI @ck.eq_1<|aI @cA.eq_1<|aI @NS.eq_1<|aI @aC.eq_1<|aI @Le.eq_1<|aI @xw.eq_1<|aI @bU.eq_1<|aI @jo.eq_1<|aI @Fy.eq_1<|aI @Ir.eq_1<|aI @bz.eq_1<|aI @sd.eq_1<|aI @eV.eq_1<|aI @eC.eq_1<|aI @dW.eq_1<|aI @S0.eq_1<|aI @q8.eq_1<|aI @La.eq_1<|aI @Lb.eq_1<|aI @eArgs.eq_1<|aI @eArgs.eq_2<|aI @jH.eq_1<|aI @cY.eq_1<|aI @lq.eq_1<|aI @aG.eq_1<|aI @Ck.eq_1<|aI @uK.eq_1<|aI @uK.eq_2<|aI @uK.eq_3<|aI @uK.eq_4<|aI @uK.eq_5<|aI @uK.eq_6<|aI @uK.eq_7<|aI @NR.eq_1<|aI @tE.eq_1<|aI @uJ.eq_1<|aI @sH.eq_1<|aI @iJ.eq_1<|aI @gm.eq_1<|aI @lR.eq_1<|aI @lR.eq_2<|aI @bX.eq_1<|aI @bX.eq_2<|aI @bX.eq_3<|aI @kP.eq_1<|aI @kP.eq_2<|aI @kP.eq_3<|aI @kP.eq_4<|aI @mS.eq_1<|aI @mS.eq_2<|aI @mS.eq_3<|aI @mS.eq_4<|aI @cS.eq_1<|aI @pk.eq_1<|aI @fK.eq_1<|aI @itemsOf.eq_1<|aI @itemsOf.eq_2<|aI @itemsOf.eq_3<|aI @oW.eq_1<|aI @ay<|aI @cw<|aI @Ox<|aI @Oy<|aI @Oz<|aI @Ja<|aI @Mb<|aI @Mc<|aI @OD<|aI @L6<|aI @L7<|aI @L8<|aI @I_<|aI @L9<|aI @L_<|aI @Ma<|aI @OA<|aI @OB<|aI @OC<|aI @F0<|aI @h_.eq_1<|aI @h_.eq_2<|aI @C5<|aI @uy<|aI @Ro<|aI @Ot<|aI @Ou<|aI @Ov<|aI @Ow<|aI @ql<|aI @Rm<|aI @Oq<|aI @Oo<|aI @qm<|aI @eG<|aI @List.map_cons.{0,0}<|aI @List.map_nil.{0,0}<|aI @List.cons_append.{0}<|aI @List.nil_append.{0}<|aI @List.getElem?_cons_zero.{0}<|aI @List.getElem?_cons_succ.{0}<|aI @List.length_cons.{0}<|aI @List.length_nil.{0}<|aI @List.length_map.{0,0}<|aI @List.length_range<|aI @List.set_cons_zero.{0}<|aI @List.set_cons_succ.{0}<|aI @List.replicate_succ.{0}<|aI @List.replicate_zero.{0}<|aI @if_true.{0}<|aI @if_false.{0}<|aI @Bool.false_eq_true<|aI @Bool.not_true<|aI @Bool.not_false<|aI @decide_true<|aI @decide_false<|aI @ite_true.{0}<|aI @ite_false.{0}<|aI @Option.map_some.{0,0}<|aI @Option.join_some.{0}<|aI @beq_self_eq_true.{0}<|aI @eq_self.{0}<|aI @Bool.or_false<|aI @Bool.false_or<|aI @Bool.or_true<|@Bool.true_or
abbrev tL (x:List Ju):Option (Bool×Ju):=some (true,.list x)
abbrev tI (x:Int):Option (Bool×Ju):=some (true,.int x)
abbrev tN (x:Nat):Option (Bool×Ju):=some (true,.int (x:Int))
abbrev tT (x:List Ju):Option (Bool×Ju):=some (true,.tuple x)
abbrev tD (x:List (Ju×Ju)):Option (Bool×Ju):=some (true,.dict x)
abbrev tB (x:Bool):Option (Bool×Ju):=some (true,.bool x)
abbrev tA (x:Ju):Option (Bool×Ju):=some (true,x)
abbrev fL (x:List Ju):Option (Bool×Ju):=some (false,.list x)
abbrev fI (x:Int):Option (Bool×Ju):=some (false,.int x)
abbrev fN (x:Nat):Option (Bool×Ju):=some (false,.int (x:Int))
abbrev fT (x:List Ju):Option (Bool×Ju):=some (false,.tuple x)
abbrev fD (x:List (Ju×Ju)):Option (Bool×Ju):=some (false,.dict x)
abbrev fA (x:Ju):Option (Bool×Ju):=some (false,x)
def nat (o:Nat):Ju:=.int (o:Int)
abbrev Sg:=(Nat->List Nat)×(Nat->List Nat)
def EE (v1 v2:Nat->Int):List Sg->List Nat->Prop
 | [],H=>∀k∈H,v1 k=v2 k
 | (a,b) :: r,H=>(∀k∈H,a k=b k)/\EE v1 v2 r (H++H.flatMap a)
def SS (v1 v2:Nat->Int):List Sg->Nat->Prop
 | [],k=>v1 k=v2 k
 | (a,b) :: r,k=>SS v1 v2 r k/\a k=b k/\∀j∈a k,SS v1 v2 r j
theorem BG (v1 v2:Nat->Int):∀(r:List Sg) (H:List Nat),EE v1 v2 r H↔∀k∈H,SS v1 v2 r k
 | [],H=>Iff.rfl
 | (a,b) :: r,H=>by
  simp only[EE,SS]
  rw[BG v1 v2 r]
  constructor
  ·rintro⟨h1,h2⟩ k hk
   exact⟨h2 k (KY _ hk),h1 k hk,λj hj=>h2 j (K1 _ (U1.mpr ⟨k,hk,hj⟩))⟩
  ·intro h
   refine⟨λk hk=>(h k hk).2.1,λj hj=> ?_⟩
   rcases Kk.mp hj with hj | hj
   ·exact(h j hj).1
   ·obtain⟨k,hk,hj⟩:=U1.mp hj
    exact(h k hk).2.2 j hj
theorem RD (v1 v2:Nat->Int)(r:List Sg)(k:Nat):EE v1 v2 r [k]↔SS v1 v2 r k:=by rw[BG];simp
theorem RE {v1 v2:Nat->Int}{r:List Sg}{H H':List Nat}(h:∀k,k∈H↔k∈H'):EE v1 v2 r H↔EE v1 v2 r H':=by
 rw[BG,BG];exact⟨λz k hk=>z k ((h k).mpr hk),λz k hk=>z k ((h k).mp hk)⟩
def bv (h:Nat)(W:List Ju)(k:Nat):List Nat:=(List.range h).filter λo=> !((o:Int)==(k:Int)) && !dG W (.tuple [.int (o:Int),.int (k:Int)])
theorem OS (h k:Nat)(W:List Ju)(hh:h<=4)(hW:lays 60 W=true):f7 [.int (h:Int),.tuple W,.int (k:Int)]=ah (true,.tuple ((bv h W k).map nat)):=by
 have hp:∀o:Nat,lay 60 (.tuple [.int (o:Int),.int (k:Int)])=true:=λ_=>rfl
 have hc:=Ad (ft:=kB) (fe:=nA) (cap:=[fN k,fT W]) ((List.range h).map λ(i:Nat)=>PyData.int (i:Int))
  (λd=>match d with | .int o=> !(o==(k:Int)) && !dG W (.tuple [.int o,.int (k:Int)]) | _=>false) (λd=>(Kd.fr [],d)) (λd hd=>by
   obtain⟨o,_,rfl⟩:=Ky.mp hd
   have e:=vp (hp o) hW
   have n2:aq [PyData.int (o:Int),.int (k:Int)]=true:=rfl
   cases hb:(((o:Nat):Int)==(k:Int)) with
   | true=>simp(disch:=omega) only[kB,rn,reduceIte,hb,Y9]
   | false=>simp(disch:=omega) only[kB,rn,reduceIte,hb,e,ao n2,UZ]) (λd hd _=>by
   obtain⟨o,_,rfl⟩:=Ky.mp hd
   simp(disch:=omega) only[nA,rn,reduceIte])
 have e1:((((List.range h).map λ(i:Nat)=>PyData.int (i:Int)).filter λd=>match d with | .int o=> !(o==(k:Int)) && !dG W (.tuple [.int o,.int (k:Int)]) | _=>false))=(bv h W k).map nat:=by
  rw[List.filter_map];rfl
 rw[e1] at hc
 have k1:=gM ((bv h W k).map nat) id
 simp only[id] at k1
 have m1:(((bv h W k).map nat).map λd=>(Kd.fr [],d)).map Prod.snd=(bv h W k).map nat:=by rw[X7];exact List.map_id _
 have hl:h<=100000:=by omega
 have nW:aq ((bv h W k).map nat)=true:=aP _ (λ_=>rfl) _
 generalize (bv h W k).map nat=L at*
 simp(disch:=omega) only[f7,rj,cI,rn,reduceIte,K0,hc,k1,m1,hl,dh nW,ao nW]
theorem mC (h k:Nat)(W:List Ju)(hh:h<=4)(hW:lays 60 W=true):bb [.int (h:Int),.tuple W,.int (k:Int)]=ah (true,.tuple ((bv h W k).map nat)):=by
 have hp:∀o:Nat,lay 60 (.tuple [.int (o:Int),.int (k:Int)])=true:=λ_=>rfl
 obtain⟨Γ',h1,c4,h2⟩:=bo (g:=cS 4) (b:=dJ) (ds:=(List.range h).map λ(i:Nat)=>PyData.int (i:Int)) (Γ:=[fN h,fT W,fN k,tL [],none])
  (λi Γ=>∃c4:Option (Bool×Ju),Γ=[fN h,fT W,fN k,tL ((bv i W k).map nat),c4]) ⟨none,rfl⟩ (by
  rintro i d Γ hd ⟨c4,rfl⟩
  obtain⟨rfl,hi⟩:=cy hd
  refine⟨_,[fN h,fT W,fN k,tL ((bv (i+1) W k).map nat),tN i],rfl,.inl ?_,_,rfl⟩
  have e:=vp (hp i) hW
  have n2:aq [PyData.int (i:Int),.int (k:Int)]=true:=rfl
  have hsz:(bv i W k).length < sizeLine:=X0 (Kq (Xq _ _) (by rw[X9];omega:_<=4)) (by decide)
  have es:bv (i+1) W k=bv i W k++(if (!((i:Int)==(k:Int)) && !dG W (.tuple [.int (i:Int),.int (k:Int)]))=true then [i] else []):=by
   unfold bv;rw[Y8,List.filter_append,UQ,YY]
  rw[es]
  cases hb:(((i:Nat):Int)==(k:Int)) with
  | true=>simp(disch:=omega) only[dJ,rn,reduceIte,hb,Y9,Xx]
  | false=>
   cases ha:dG W (.tuple [.int (i:Int),.int (k:Int)]) with
   | true=>simp(disch:=omega) only[dJ,rn,reduceIte,hb,e,ha,ao n2,UZ,Xx]
   | false=>simp(disch:=omega) only[dJ,rn,reduceIte,hb,e,ha,ao n2,UZ,hsz,X6,nat])
 rw[K4,X9] at h2
 have nW:aq ((bv h W k).map nat)=true:=aP _ (λ_=>rfl) _
 simp(disch:=omega) only[bb,kb,rn,reduceIte,K0,h1,h2,dh nW,ao nW]
theorem mD (H:List Nat)(k:Nat):dG (H.map nat) (.int (k:Int))=decide (k∈H):=by
 have e:H.map nat=(H.map λ(o:Nat)=>(o:Int)).map PyData.int:=by rw[X7];rfl
 rw[e,F1]
 congr 1
 rw[Ky,eq_iff_iff]
 exact⟨λ⟨o,ho,h⟩=>(show o=k by omega) ▸ ho,λh=>⟨k,h,rfl⟩⟩
def cV (h:Nat)(W:List Ju)(H:List Nat)(k:Nat):Ju:=if k∈H then .tuple ((bv h W k).map nat) else .none
theorem mE (h:Nat)(W:List Ju)(H:List Nat)(k:Nat):bL (cV h W H k)=true:=by
 unfold cV;split
 ·exact aP _ (λ_=>rfl) _
 ·rfl
theorem ME (h:Nat)(W:List Ju)(H:List Nat)(hh:h<=4)(hW:lays 60 W=true) :
  bE [.int (h:Int),.tuple W,.list (H.map nat)]=ah (true,.tuple ((List.range h).map (cV h W H))):=by
 have hc:=jX (fe:=fG) (cap:=[fL (H.map nat),fN h,fT W]) ((List.range h).map λ(i:Nat)=>PyData.int (i:Int))
  (λd=>match d with | .int k=>(.fr [],cV h W H k.toNat) | _=>(.fr [],.none)) (λd hd=>by
   obtain⟨k,_,rfl⟩:=Ky.mp hd
   have e:=qo (x:=.int (k:Int)) (ys:=H.map nat) rfl (j0 _ (λ_=>rfl) _)
   rw[mD] at e
   have c:=OS h k W hh hW
   have nW:aq ((bv h W k).map nat)=true:=aP _ (λ_=>rfl) _
   by_cases hb:k∈H
   ·simp(disch:=omega) only[fG,rn,reduceIte,e,hb,c,ao nW,K0,cV]
   ·simp(disch:=omega) only[fG,rn,reduceIte,e,hb,K0,cV])
 rw[X7] at hc
 have e1:(((List.range h).map λ(i:Nat)=>PyData.int (i:Int)).map λd=>match d with | .int k=>(Kd.fr [],cV h W H k.toNat) | _=>(Kd.fr [],PyData.none))=(List.range h).map λk=>(Kd.fr [],cV h W H k):=by
  rw[X7];refine U5 λk _=> ?_;simp only[Function.comp,K0]
 rw[X7] at e1
 rw[e1] at hc
 have k1:=gM (List.range h) (cV h W H)
 have m1:((List.range h).map λk=>(Kd.fr [],cV h W H k)).map Prod.snd=(List.range h).map (cV h W H):=by rw[X7];rfl
 have hl:h<=100000:=by omega
 have nW:aq ((List.range h).map (cV h W H))=true:=aP _ (mE h W H) _
 simp(disch:=omega) only[bE,jx,cI,rn,reduceIte,K0,hc,k1,m1,hl,dh nW,ao nW]
def lN (h:Nat)(W:List Ju)(H:List Nat)(i:Nat):List Nat:=H++((List.range i).filter λk=>decide (k∈H)).flatMap (bv h W)
def iN (h:Nat)(W:List Ju)(H:List Nat):List Nat:=[0,1,2,3].filter λk=>decide (k∈lN h W H h)
theorem GC (E:List Nat):CI (E.map nat)=([0,1,2,3].filter λk=>decide (k∈E)).map nat:=by
 unfold CI
 show List.map nat _=_
 congr 1
 refine List.filter_congr λk _=> ?_
 rw[List.any_map,Uz,List.any_eq_true,J9]
 constructor
 ·rintro⟨y,hy,hk⟩
  have hk2:((y:Nat):Int)=(k:Int):=by simpa [S7,nat] using hk
  have:y=k:=by omega
  exact this ▸ hy
 ·intro h;exact⟨k,h,by simp[S7,nat]⟩
theorem kL {h:Nat}{W:List Ju}{k o:Nat}(ho:o∈bv h W k):o < h:=X2.mp (U9.mp ho).1
theorem GD (h:Nat)(W:List Ju)(H:List Nat)(hh:h<=4)(hH:∀k∈H,k < h)(hl:H.length<=4) :
  bF [.list (H.map nat),.tuple ((List.range h).map (cV h W H))]=ah (true,.list ((iN h W H).map nat)):=by
 have Tz:∀k,(bv h W k).length<=4:=λk=>Kq (Xq _ _) (by rw[X9];exact hh)
 have VE:∀i,i<=h->(lN h W H i).length<=4+4*i:=by
  intro i
  induction i with
  | zero=>intro _;simp[lN];omega
  | succ i ih=>
   intro hi
   have:=ih (by omega)
   have s:=Tz i
   unfold lN at this⊢
   rw[Y8,List.filter_append,List.flatMap_append,←Xj,Kx]
   by_cases hm:i∈H
   ·simp only[UQ,hm,decide_true,if_true,YY,List.flatMap_cons,List.flatMap_nil,Xx];omega
   ·simp only[UQ,hm,decide_false,U3,if_false,YY,List.flatMap_nil,Uj];omega
 obtain⟨Γ',h1,c3,h2⟩:=bo (g:=cS 3) (b:=fH) (ds:=(List.range h).map (cV h W H)) (Γ:=[fL (H.map nat),fT ((List.range h).map (cV h W H)),tL (H.map nat),none])
  (λi Γ=>∃c3:Option (Bool×Ju),Γ=[fL (H.map nat),fT ((List.range h).map (cV h W H)),tL ((lN h W H i).map nat),c3]) ⟨none,by simp[lN]⟩ (by
  rintro i d Γ hd ⟨c3,rfl⟩
  have hi:i < h:=by have:=(X5.mp hd).1;simpa using this
  rw[Kj,U4 hi] at hd
  have hd':cV h W H i=d:=Option.some.inj hd
  subst hd'
  refine⟨_,[fL (H.map nat),fT ((List.range h).map (cV h W H)),tL ((lN h W H (i+1)).map nat),tA (cV h W H i)],by rw[dZ (mE h W H i)];rfl,.inl ?_,_,rfl⟩
  have f1:=VE i (by omega)
  have s1:=Tz i
  have nW:aq ((bv h W i).map nat)=true:=aP _ (λ_=>rfl) _
  have hsz:(lN h W H i).length+(bv h W i).length<=sizeLine:=Kq (show _<=100 by omega) (by decide)
  have es:lN h W H (i+1)=lN h W H i++(if i∈H then bv h W i else []):=by
   unfold lN
   rw[Y8,List.filter_append,List.flatMap_append,←Xj]
   by_cases hm:i∈H
   ·simp only[UQ,hm,decide_true,if_true,YY,List.flatMap_cons,List.flatMap_nil,Xx]
   ·simp only[UQ,hm,decide_false,U3,if_false,YY,List.flatMap_nil]
  rw[es]
  by_cases hm:i∈H
  ·simp(disch:=omega) only[fH,rn,h_,lR,bX,reduceIte,cV,hm,ao nW,Fx,nW,hsz,X6,and_self]
  ·simp(disch:=omega) only[fH,rn,h_,lR,bX,reduceIte,cV,hm,Xx])
 rw[K4,X9] at h2
 have hlt:∀k∈lN h W H h,k < 4:=λk hk=>by
  unfold lN at hk
  rcases Kk.mp hk with hk | hk
  ·have:=hH k hk;omega
  ·obtain⟨j,_,hj⟩:=U1.mp hk
   have:=kL hj;omega
 have hin:((lN h W H h).map nat).all in4=true:=by
  rw[List.all_map,Uv]
  intro k hk
  have:=hlt k hk
  simp only[Function.comp,nat,in4,KQ,J9]
  omega
 have hs:nc (.list ((lN h W H h).map nat))=some (.list ((iN h W H).map nat)):=by
  simp only[nc,hin,if_true,GC,iN]
 have n1:aq (H.map nat)=true:=aP _ (λ_=>rfl) _
 have n2:aq ((List.range h).map (cV h W H))=true:=aP _ (mE h W H) _
 simp(disch:=omega) only[bF,jy,rn,h_,lR,bX,reduceIte,pK n1,ao n2,h1,h2,hs]
def hs (h:Nat):List (List Ju)->List Nat->List Nat
 | [],H=>H
 | W :: R,H=>hs h R (iN h W H)
def rows (h:Nat):List (List Ju)->List Nat->List Ju
 | [],_=> []
 | W :: R,H=> .tuple ((List.range h).map (cV h W H)) :: rows h R (iN h W H)
theorem HF (h:Nat)(W:List Ju):∀(R:List (List Ju)) (H:List Nat),hs h (R++[W]) H=iN h W (hs h R H)
 | [],H=>rfl
 | V :: R,H=>by rw[U8,hs,hs,HF h W R]
theorem y0 (h:Nat)(W:List Ju):∀(R:List (List Ju)) (H:List Nat),rows h (R++[W]) H=rows h R H++[.tuple ((List.range h).map (cV h W (hs h R H)))]
 | [],H=>rfl
 | V :: R,H=>by rw[U8,rows,rows,y0 h W R,hs,U8]
theorem wZ {h:Nat}{W:List Ju}{H:List Nat}(hH:∀k∈H,k < h):∀k∈iN h W H,k < h:=λk hk=>by
 have hk':k∈lN h W H h:=by simpa using (U9.mp hk).2
 unfold lN at hk'
 rcases Kk.mp hk' with z | z
 ·exact hH k z
 ·obtain⟨j,_,hj⟩:=U1.mp z;exact kL hj
theorem JL (h:Nat)(W:List Ju)(H:List Nat):(iN h W H).length<=4:=Xq _ _
theorem PK {h:Nat}:∀{R:List (List Ju)} {H:List Nat},(∀k∈H,k < h)->H.length<=4->(∀k∈hs h R H,k < h)/\(hs h R H).length<=4
 | [],H,h1,h2=>⟨h1,h2⟩
 | W :: R,H,h1,h2=>PK (R:=R) (H:=iN h W H) (wZ h1) (JL h W H)
theorem qJ {h:Nat}:∀{R:List (List Ju)} {H:List Nat},aq (rows h R H)=true
 | [],H=>rfl
 | W :: R,H=>by rw[rows,aq,qJ,eG,aP _ (mE h W H)];rfl
theorem qK {h:Nat}:∀{R:List (List Ju)} {H:List Nat},(rows h R H).length=R.length
 | [],H=>rfl
 | W :: R,H=>by rw[rows,Kv,qK,Kv]
def cP (vs:List Int)(H:List Nat)(k:Nat):Ju:=if k∈H then .int (vs.getD k 0) else .none
theorem qL (vs:List Int)(H:List Nat)(k:Nat):bL (cP vs H k)=true:=by unfold cP;split <;> rfl
def cQ (vs:List Int)(Ws:List (List Ju))(hand:Nat):Ju :=
 .tuple [.int (hand:Int),.tuple ((List.range vs.length).map (cP vs (hs vs.length Ws.reverse [hand]))),.tuple (rows vs.length Ws.reverse [hand]).reverse]
def dS (vs:List Int)(Ws:List (List Ju)):Ju:=.tuple [.tuple (vs.map PyData.int),.tuple (Ws.map PyData.tuple)]
theorem qM {vs:List Int}{Ws:List (List Ju)}(hn:∀W∈Ws,aq W=true):aq [PyData.tuple (vs.map PyData.int),.tuple (Ws.map PyData.tuple)]=true:=by
 have:aq (Ws.map PyData.tuple)=true:=a6.mpr λx hx=>by
  obtain⟨W,hW,rfl⟩:=Ky.mp hx;exact hn W hW
 simp only[aq,eG,c_,this,Xv]
theorem OT (vs:List Int)(Ws:List (List Ju))(hand:Nat)(hh:vs.length<=4)(hd:hand < vs.length)(hr:Ws.length<=5)(hn:∀W∈Ws,aq W=true)(hW:∀W∈Ws,lays 60 W=true) :
  kX [dS vs Ws,.int (hand:Int)]=ah (true,cQ vs Ws hand):=by
 have nr:=qM (vs:=vs) hn
 have nw:aq (Ws.map PyData.tuple)=true:=by simp only[aq,eG,c_,UZ,Bool.and_true] at nr;exact nr
 generalize hh':vs.length=h at*
 have a0:jE [PyData.tuple (vs.map PyData.int),.tuple (Ws.map PyData.tuple)] 0=some (.tuple (vs.map PyData.int)):=rfl
 have a1:jE [PyData.tuple (vs.map PyData.int),.tuple (Ws.map PyData.tuple)] 1=some (.tuple (Ws.map PyData.tuple)):=rfl
 have hml:(vs.map PyData.int).length=h:=by rw[K4];exact hh'
 obtain⟨Γ',h1,c6,c7,h2⟩:=bo (g:=cS 6) (b:=vA) (ds:=Ws.reverse.map PyData.tuple) (Γ:=[fA (dS vs Ws),fN hand,tT (vs.map PyData.int),tN h,tL [.int (hand:Int)],tL [],none,none,none])
  (λi Γ=>∃c6 c7:Option (Bool×Ju),Γ=[fA (dS vs Ws),fN hand,tT (vs.map PyData.int),tN h,tL ((hs h (Ws.reverse.take i) [hand]).map nat),tL (rows h (Ws.reverse.take i) [hand]),c6,c7,none]) ⟨none,none,rfl⟩ (by
  rintro i d Γ hd2 ⟨c6,c7,rfl⟩
  have hi:i < Ws.reverse.length:=by have:=(X5.mp hd2).1;simpa using this
  rw[Kj,K5 hi] at hd2
  have hd':PyData.tuple Ws.reverse[i]=d:=Option.some.inj hd2
  subst hd'
  have hm:Ws.reverse[i]∈Ws:=Uw.mp (Xy hi)
  have et:Ws.reverse.take (i+1)=Ws.reverse.take i++[Ws.reverse[i]]:=by rw[UY,K5 hi];rfl
  obtain⟨o1,o2⟩:=PK (R:=Ws.reverse.take i) (H:=[hand]) (h:=h) (λk hk=>by rw[K7.mp hk];exact hd) (by simp)
  have n1:=hn _ hm
  have c1:=ME h Ws.reverse[i] (hs h (Ws.reverse.take i) [hand]) hh (hW _ hm)
  have c2:=GD h Ws.reverse[i] (hs h (Ws.reverse.take i) [hand]) hh o1 o2
  have nR:aq ((List.range h).map (cV h Ws.reverse[i] (hs h (Ws.reverse.take i) [hand])))=true:=aP _ (mE _ _ _) _
  have hsz:(rows h (Ws.reverse.take i) [hand]).length < sizeLine:=X0 (show _<=5 by rw[qK];simp at hi⊢;omega) (by decide)
  refine⟨_,[fA (dS vs Ws),fN hand,tT (vs.map PyData.int),tN h,tL ((hs h (Ws.reverse.take (i+1)) [hand]).map nat),tL (rows h (Ws.reverse.take (i+1)) [hand]),tT Ws.reverse[i],tT ((List.range h).map (cV h Ws.reverse[i] (hs h (Ws.reverse.take i) [hand]))),none],by rw[ao n1];rfl,.inl ?_,_,_,rfl⟩
  rw[et,HF,y0]
  generalize Ws.reverse[i]=W at*
  simp(disch:=omega) only[vA,rn,reduceIte,ao n1,c1,ao nR,hsz,c2])
 rw[K4,UW] at h2
 simp only[dS] at h1 h2
 have hc:=jX (fe:=qq) (cap:=[fL ((hs h Ws.reverse [hand]).map nat),fT (vs.map PyData.int)]) ((List.range h).map λ(i:Nat)=>PyData.int (i:Int))
  (λd=>match d with | .int k=>(.fr [],cP vs (hs h Ws.reverse [hand]) k.toNat) | _=>(.fr [],.none)) (λd hd=>by
   obtain⟨k,hk,rfl⟩:=Ky.mp hd
   have e:=qo (x:=.int (k:Int)) (ys:=(hs h Ws.reverse [hand]).map nat) rfl (j0 _ (λ_=>rfl) _)
   rw[mD] at e
   have hk':k < vs.length:=by rw[hh'];exact X2.mp hk
   have ea:jE (vs.map PyData.int) (k:Int)=some (.int (vs.getD k 0)):=cW (by rw[Kj,KW,K5 hk'];rfl)
   by_cases hb:k∈hs h Ws.reverse [hand]
   ·simp(disch:=omega) only[qq,rn,reduceIte,e,hb,ea,ao (c_ vs),K0,cP]
   ·simp(disch:=omega) only[qq,rn,reduceIte,e,hb,K0,cP])
 have e1:(((List.range h).map λ(i:Nat)=>PyData.int (i:Int)).map λd=>match d with | .int k=>(Kd.fr [],cP vs (hs h Ws.reverse [hand]) k.toNat) | _=>(Kd.fr [],PyData.none))=(List.range h).map λk=>(Kd.fr [],cP vs (hs h Ws.reverse [hand]) k):=by
  rw[X7];refine U5 λk _=> ?_;simp only[Function.comp,K0]
 rw[e1] at hc
 have k1:=gM (List.range h) (cP vs (hs h Ws.reverse [hand]))
 have m1:((List.range h).map λk=>(Kd.fr [],cP vs (hs h Ws.reverse [hand]) k)).map Prod.snd=(List.range h).map (cP vs (hs h Ws.reverse [hand])):=by rw[X7];rfl
 have hl:h<=100000:=by omega
 have n1:aq ((List.range h).map (cP vs (hs h Ws.reverse [hand])))=true:=aP _ (qL _ _) _
 have n2:aq (rows h Ws.reverse [hand])=true:=qJ
 have n3:aq (rows h Ws.reverse [hand]).reverse=true:=a6.mpr λx hx=>a6.mp n2 x (Uw.mp hx)
 have n4:aq [PyData.int (hand:Int),.tuple ((List.range h).map (cP vs (hs h Ws.reverse [hand]))),.tuple (rows h Ws.reverse [hand]).reverse]=true:=by simp only[aq,ql,eG,n1,n3,Xv]
 simp(disch:=omega) only[kX,F2,cI,Lg,NT,rn,reduceIte,dS,a0,a1,ao nr,ao (c_ vs),ao nw,hml,hh',←List.map_reverse,h1,h2,K0,hc,k1,m1,hl,dh n1,vq n2,ao n1,ao n3,ao n4,cQ]
mutual
def pl:Ju->Bool
 | .none=>true
 | .int _=>true
 | .tuple xs=>Nq xs
 | _=>false
def Nq:List Ju->Bool
 | []=>true
 | d :: ds=>pl d && Nq ds
end
mutual
theorem MF:∀(x y:Ju),pl x=true->pl y=true->PyData.eqv x y=true->x=y
 | .none,.none,_,_,_=>rfl
 | .int i,.int j,_,_,h=>by simp[PyData.eqv] at h;rw[h]
 | .tuple xs,.tuple ys,hx,hy,h=>by
  rw[pl] at hx hy
  simp only[PyData.eqv] at h
  rw[HG xs ys hx hy h]
 | .none,.int _,_,_,h=>by simp[PyData.eqv] at h
 | .none,.tuple _,_,_,h=>by simp[PyData.eqv] at h
 | .int _,.none,_,_,h=>by simp[PyData.eqv] at h
 | .int _,.tuple _,_,_,h=>by simp[PyData.eqv] at h
 | .tuple _,.none,_,_,h=>by simp[PyData.eqv] at h
 | .tuple _,.int _,_,_,h=>by simp[PyData.eqv] at h
 | .bool _,_,hx,_,_=>by simp[pl] at hx
 | .str _,_,hx,_,_=>by simp[pl] at hx
 | .list _,_,hx,_,_=>by simp[pl] at hx
 | .dict _,_,hx,_,_=>by simp[pl] at hx
 | .none,.bool _,_,hy,_=>by simp[pl] at hy
 | .none,.str _,_,hy,_=>by simp[pl] at hy
 | .none,.list _,_,hy,_=>by simp[pl] at hy
 | .none,.dict _,_,hy,_=>by simp[pl] at hy
 | .int _,.bool _,_,hy,_=>by simp[pl] at hy
 | .int _,.str _,_,hy,_=>by simp[pl] at hy
 | .int _,.list _,_,hy,_=>by simp[pl] at hy
 | .int _,.dict _,_,hy,_=>by simp[pl] at hy
 | .tuple _,.bool _,_,hy,_=>by simp[pl] at hy
 | .tuple _,.str _,_,hy,_=>by simp[pl] at hy
 | .tuple _,.list _,_,hy,_=>by simp[pl] at hy
 | .tuple _,.dict _,_,hy,_=>by simp[pl] at hy
theorem HG:∀(xs ys:List Ju),Nq xs=true->Nq ys=true->PyData.eqvAll xs ys=true->xs=ys
 | [],[],_,_,_=>rfl
 | x :: xs,y :: ys,hx,hy,h=>by
  rw[Nq,KQ] at hx hy
  simp only[PyData.eqvAll,KQ] at h
  rw[MF x y hx.1 hy.1 h.1,HG xs ys hx.2 hy.2 h.2]
 | [],_ :: _,_,_,h=>by simp[PyData.eqvAll] at h
 | _ :: _,[],_,_,h=>by simp[PyData.eqvAll] at h
end
theorem mF:∀{xs:List Ju},Nq xs=true↔∀x∈xs,pl x=true
 | []=>by simp[Nq]
 | x :: xs=>by rw[Nq,KQ,mF (xs:=xs)];simp
theorem RF (h:Nat)(W:List Ju)(H:List Nat)(k:Nat):pl (cV h W H k)=true:=by
 unfold cV;split
 ·rw[pl];exact mF.mpr λx hx=>by
   obtain⟨o,_,rfl⟩:=Ky.mp hx;rfl
 ·rfl
theorem HH {h:Nat}:∀{R:List (List Ju)} {H:List Nat},∀x∈rows h R H,pl x=true
 | [],H,x,hx=>by cases hx
 | W :: R,H,x,hx=>by
  rw[rows] at hx
  rcases K2.mp hx with rfl | hx
  ·rw[pl];exact mF.mpr λy hy=>by
    obtain⟨k,_,rfl⟩:=Ky.mp hy;exact RF h W H k
  ·exact HH x hx
theorem oT (vs:List Int)(Ws:List (List Ju))(hand:Nat):pl (cQ vs Ws hand)=true:=by
 unfold cQ
 rw[pl]
 refine mF.mpr λx hx=> ?_
 simp only[K2,List.not_mem_nil,or_false] at hx
 rcases hx with rfl | rfl | rfl
 ·rfl
 ·rw[pl];exact mF.mpr λy hy=>by
   obtain⟨k,_,rfl⟩:=Ky.mp hy;unfold cP;split <;> rfl
 ·rw[pl];exact mF.mpr λy hy=>HH y (Uw.mp hy)
def zz (h:Nat)(R1 R2:List (List Ju)):List Sg:=(R1.zip R2).map λx=>(bv h x.1,bv h x.2)
theorem HI {l l':List Nat}(h:l.map nat=l'.map nat):l=l':=by
 induction l generalizing l' with
 | nil=>cases l' with
  | nil=>rfl
  | cons=>simp at h
 | cons a l ih=>cases l' with
  | nil=>simp at h
  | cons b l'=>
   simp only[KZ,List.cons.injEq] at h
   have:a=b:=by have:=h.1;simp only[nat,PyData.int.injEq] at this;omega
   rw[this,ih h.2]
theorem BH {h:Nat}{W V:List Ju}{H:List Nat}(hH:∀k∈H,k < h):(List.range h).map (cV h W H)=(List.range h).map (cV h V H)↔∀k∈H,bv h W k=bv h V k:=by
 rw[List.map_inj_left]
 constructor
 ·intro z k hk
  have:=z k (X2.mpr (hH k hk))
  unfold cV at this;rw[J5 hk,J5 hk] at this
  exact HI (PyData.tuple.inj this)
 ·intro z k _
  unfold cV;split
  ·rename_i hk;rw[z k hk]
  ·rfl
theorem qN {h:Nat}{W:List Ju}{H:List Nat}(hh:h<=4)(hH:∀k∈H,k < h)(k:Nat):k∈iN h W H↔k∈H++H.flatMap (bv h W):=by
 have e:∀k,k∈lN h W H h↔k∈H++H.flatMap (bv h W):=λk=>by
  unfold lN
  simp only[Kk,U1,U9,X2,J9]
  exact⟨λz=>z.imp id λ⟨j,⟨_,hj⟩,r⟩=>⟨j,hj,r⟩,λz=>z.imp id λ⟨j,hj,r⟩=>⟨j,⟨hH j hj,hj⟩,r⟩⟩
 rw[←e k]
 unfold iN
 rw[U9,J9]
 refine⟨λz=>z.2,λz=>⟨?_,z⟩⟩
 have hk:k < h:=by
  rcases Kk.mp ((e k).mp z) with y | y
  ·exact hH k y
  ·obtain⟨j,_,hj⟩:=U1.mp y;exact kL hj
 simp only[K2,List.not_mem_nil,or_false];omega
theorem HJ {h:Nat}{W V:List Ju}{H:List Nat}(z:∀k∈H,bv h W k=bv h V k):iN h W H=iN h V H:=by
 unfold iN
 refine List.filter_congr λk _=> ?_
 congr 1
 unfold lN
 simp only[Kk,U1,U9,J9,eq_iff_iff]
 exact⟨λy=>y.imp id λ⟨j,hj,r⟩=>⟨j,hj,by rw[←z j hj.2];exact r⟩,λy=>y.imp id λ⟨j,hj,r⟩=>⟨j,hj,by rw[z j hj.2];exact r⟩⟩
theorem Eu {h:Nat}{v1 v2:List Int}(hh:h<=4):∀{R1 R2:List (List Ju)} {H:List Nat},R1.length=R2.length->(∀k∈H,k < h)->
  ((rows h R1 H=rows h R2 H/\(List.range h).map (cP v1 (hs h R1 H))=(List.range h).map (cP v2 (hs h R2 H)))↔EE (λk=>v1.getD k 0) (λk=>v2.getD k 0) (zz h R1 R2) H)
 | [],[],H,_,hH=>by
  simp only[rows,hs,zz,List.zip_nil_left,Yx,EE,true_and]
  rw[List.map_inj_left]
  constructor
  ·intro z k hk
   have:=z k (X2.mpr (hH k hk))
   unfold cP at this;rw[J5 hk,J5 hk] at this
   exact PyData.int.inj this
  ·intro z k _
   unfold cP;split
   ·rename_i hk;rw[z k hk]
   ·rfl
 | W :: R1,V :: R2,H,hl,hH=>by
  have ih:=Eu (v1:=v1) (v2:=v2) hh (R1:=R1) (R2:=R2) (H:=iN h W H) (by simpa using hl) (wZ hH)
  simp only[zz,List.zip_cons_cons,KZ,EE]
  rw[←RE (qN (W:=W) hh hH)]
  simp only[zz] at ih
  rw[←ih,←BH hH]
  simp only[rows,hs,List.cons.injEq,PyData.tuple.injEq]
  constructor
  ·rintro⟨⟨a,b⟩,c⟩
   have e:=HJ ((BH hH).mp a)
   rw[←e] at b c
   exact⟨a,b,c⟩
  ·rintro⟨a,b,c⟩
   have e:=HJ ((BH hH).mp a)
   rw[←e]
   exact⟨⟨a,b⟩,c⟩
 | [],_ :: _,_,hl,_=>by simp at hl
 | _ :: _,[],_,hl,_=>by simp at hl
mutual
theorem BJ:∀(x:Ju),pl x=true->PyData.eqv x x=true
 | .none,_=>by simp[PyData.eqv]
 | .int _,_=>by simp[PyData.eqv]
 | .tuple xs,h=>by rw[pl] at h;simp only[PyData.eqv];exact Ex xs h
 | .bool _,h=>by simp[pl] at h
 | .str _,h=>by simp[pl] at h
 | .list _,h=>by simp[pl] at h
 | .dict _,h=>by simp[pl] at h
theorem Ex:∀(xs:List Ju),Nq xs=true->PyData.eqvAll xs xs=true
 | [],_=>by simp[PyData.eqvAll]
 | x :: xs,h=>by
  rw[Nq,KQ] at h
  simp only[PyData.eqvAll,BJ x h.1,Ex xs h.2,Xv]
end
theorem mG {x y:Ju}(hx:pl x=true)(hy:pl y=true):PyData.eqv x y=true↔x=y :=
 ⟨MF x y hx hy,λh=>by rw[←h];exact BJ x hx⟩
theorem MG {v1 v2:List Int}{W1 W2:List (List Ju)}{k:Nat}(hh:v1.length<=4)(hv:v1.length=v2.length)(hl:W1.length=W2.length)(hk:k < v1.length) :
  cQ v1 W1 k=cQ v2 W2 k↔SS (λk=>v1.getD k 0) (λk=>v2.getD k 0) (zz v1.length W1.reverse W2.reverse) k:=by
 rw[←RD,←Eu hh (by simp[hl]) (λj hj=>by rw[K7.mp hj];exact hk)]
 unfold cQ
 rw[←hv]
 simp only[PyData.tuple.injEq,List.cons.injEq,true_and,and_true,List.reverse_inj]
 exact and_comm
def gp (v1 v2:List Int)(W1 W2:List (List Ju))(k:Nat):Bool:=PyData.eqv (cQ v1 W1 k) (cQ v2 W2 k)
theorem same_iff {v1 v2:List Int}{W1 W2:List (List Ju)}{k:Nat}(hh:v1.length<=4)(hv:v1.length=v2.length)(hl:W1.length=W2.length)(hk:k < v1.length) :
  gp v1 v2 W1 W2 k=true↔SS (λk=>v1.getD k 0) (λk=>v2.getD k 0) (zz v1.length W1.reverse W2.reverse) k:=by
 unfold gp
 rw[mG (oT _ _ _) (oT _ _ _),MG hh hv hl hk]
theorem JM {v1 v2:List Int}{k:Nat}(hh:v1.length<=4)(hv:v1.length=v2.length)(hk:k < v1.length):gp v1 v2 [] [] k=(v1.getD k 0==v2.getD k 0):=by
 rw[Uz,same_iff hh hv rfl hk]
 simp[zz,SS]
theorem JN {v1 v2:List Int}{W1 W2:List (List Ju)}{k i:Nat}(hh:v1.length<=4)(hv:v1.length=v2.length)(hl:W1.length=W2.length)(hk:k < v1.length)(hi:i < W1.length) :
  gp v1 v2 (W1.take (i+1)) (W2.take (i+1)) k=((gp v1 v2 (W1.take i) (W2.take i) k && decide (bv v1.length W1[i] k=bv v1.length (W2[i]'(hl ▸ hi)) k)) && (bv v1.length W1[i] k).all λj=>gp v1 v2 (W1.take i) (W2.take i) j):=by
 have hi2:i < W2.length:=hl ▸ hi
 have e1:W1.take (i+1)=W1.take i++[W1[i]]:=by rw[UY,K5 hi];rfl
 have e2:W2.take (i+1)=W2.take i++[W2[i]]:=by rw[UY,K5 hi2];rfl
 have hl':(W1.take i).length=(W2.take i).length:=by simp[hl]
 have ez:zz v1.length (W1.take (i+1)).reverse (W2.take (i+1)).reverse=(bv v1.length W1[i],bv v1.length W2[i]) :: zz v1.length (W1.take i).reverse (W2.take i).reverse:=by
  rw[e1,e2,List.reverse_append,List.reverse_append];rfl
 rw[Uz,same_iff hh hv (by simp[hl]) hk,ez]
 simp only[SS,KQ,J9,Uv]
 rw[same_iff hh hv hl' hk]
 constructor
 ·rintro⟨a,b,c⟩
  exact⟨⟨a,b⟩,λj hj=>(same_iff hh hv hl' (kL hj)).mpr (c j hj)⟩
 ·rintro⟨⟨a,b⟩,c⟩
  exact⟨a,b,λj hj=>(same_iff hh hv hl' (kL hj)).mp (c j hj)⟩
theorem qO (vs:List Int)(Ws:List (List Ju))(hand:Nat):bL (cQ vs Ws hand)=true:=by
 have n1:aq ((List.range vs.length).map (cP vs (hs vs.length Ws.reverse [hand])))=true:=aP _ (qL _ _) _
 have n2:aq (rows vs.length Ws.reverse [hand])=true:=qJ
 have n3:aq (rows vs.length Ws.reverse [hand]).reverse=true:=a6.mpr λx hx=>a6.mp n2 x (Uw.mp hx)
 unfold cQ
 rw[eG]
 simp only[aq,ql,eG,n1,n3,Xv]
structure uz (h:Nat)(b:Nat)(vs:List Int)(Ws:List (List Ju)):Prop where
 hv:vs.length=h
 hr:Ws.length<=5
 hp:∀W∈Ws,(∀x∈W,∃i j:Int,x= .tuple [.int i,.int j])/\W.length<=b
theorem uz.n {h b:Nat}{vs:List Int}{Ws:List (List Ju)}(w:uz h b vs Ws):∀W∈Ws,aq W=true:=λW hW=>a6.mpr λx hx=>by
 obtain⟨i,j,rfl⟩:=(w.hp W hW).1 x hx;rfl
theorem uz.l {h b:Nat}{vs:List Int}{Ws:List (List Ju)}(w:uz h b vs Ws):∀W∈Ws,lays 60 W=true:=λW hW=>jk.mpr λx hx=>by
 obtain⟨i,j,rfl⟩:=(w.hp W hW).1 x hx;rfl
theorem uz.take {h b:Nat}{vs:List Int}{Ws:List (List Ju)}(w:uz h b vs Ws)(r:Nat):uz h b vs (Ws.take r) :=
 ⟨w.hv,by rw[Uk];have:=w.hr;omega,λW hW=>w.hp W (List.mem_of_mem_take hW)⟩
theorem uz.view {h b:Nat}{vs:List Int}{Ws:List (List Ju)}(w:uz h b vs Ws)(hh:h<=4){k:Nat}(hk:k < h):kX [dS vs Ws,.int (k:Int)]=ah (true,cQ vs Ws k) :=
 OT vs Ws k (w.hv ▸ hh) (w.hv ▸ hk) w.hr w.n w.l
theorem oy {h b:Nat}{vs:List Int}{Ws:List (List Ju)}(w:uz h b vs Ws):bL (dS vs Ws)=true:=qM w.n
theorem OU {xs:List Ju}{lo hi:Option Int}(h:aq xs=true):S2 (.tuple xs) lo hi=some (.tuple (cutD xs lo hi)):=J5 h
theorem Ey {xs:List Ju}{lo hi:Option Int}(h:aq xs=true):S2 (.list xs) lo hi=some (.list (cutD xs lo hi)):=J5 h
theorem BK {h b:Nat}{vs:List Int}{Ws:List (List Ju)}(w:uz h b vs Ws):aq (Ws.map PyData.tuple)=true:=a6.mpr λx hx=>by
 obtain⟨W,hW,rfl⟩:=Ky.mp hx;exact w.n W hW
theorem MH (c0 c1 c2 c4 c5 c6 c7 c9:Option (Bool×Ju))(T:Nat->Bool)(h:Nat)(S:List Nat)(hS:∀j∈S,j < h)(b:Bool) :
  ∃jG,bj (cS 9) gJ (S.map nat) [c0,c1,c2,tL ((List.range h).map λk=> .bool (T k)),c4,c5,c6,c7,tB b,c9]=
   ah (.nx [c0,c1,c2,tL ((List.range h).map λk=> .bool (T k)),c4,c5,c6,c7,tB (b && S.all T),jG]):=by
 obtain⟨Γ',h1,jG,h2⟩:=bo (g:=cS 9) (b:=gJ) (ds:=S.map nat) (Γ:=[c0,c1,c2,tL ((List.range h).map λk=> .bool (T k)),c4,c5,c6,c7,tB b,c9])
  (λi Γ=>∃jG:Option (Bool×Ju),Γ=[c0,c1,c2,tL ((List.range h).map λk=> .bool (T k)),c4,c5,c6,c7,tB (b && (S.take i).all T),jG]) ⟨c9,by simp⟩ (by
  rintro i d Γ hd ⟨jG,rfl⟩
  have hi:i < S.length:=by have:=(X5.mp hd).1;simpa using this
  rw[Kj,K5 hi] at hd
  have hd':nat S[i]=d:=Option.some.inj hd
  subst hd'
  have et:S.take (i+1)=S.take i++[S[i]]:=by rw[UY,K5 hi];rfl
  have hj:=hS _ (Xy hi)
  refine⟨_,[c0,c1,c2,tL ((List.range h).map λk=> .bool (T k)),c4,c5,c6,c7,tB (b && (S.take (i+1)).all T),tA (nat S[i])],rfl,.inl ?_,_,rfl⟩
  rw[et,List.all_append,List.all_cons,List.all_nil,Bool.and_true,←Bool.and_assoc]
  generalize S[i]=j at*
  have ea:jE ((List.range h).map λk=>PyData.bool (T k)) (j:Int)=some (.bool (T j)):=cW (by rw[Kj,U4 hj];rfl)
  cases hb:(b && (S.take i).all T) with
  | false=>simp(disch:=omega) only[gJ,rn,reduceIte,nat,Y9]
  | true=>simp(disch:=omega) only[gJ,rn,reduceIte,nat,UZ,ea])
 rw[K4,UW] at h2
 exact⟨jG,by rw[h1,h2]⟩
def tab (v1 v2:List Int)(W1 W2:List (List Ju))(h:Nat):List Ju:=(List.range h).map λk=> .bool (gp v1 v2 W1 W2 k)
theorem OV {h b b':Nat}{v1 v2:List Int}{W1 W2:List (List Ju)}(w1:uz h b v1 W1)(w2:uz h b' v2 W2)(hh:h<=4)(hl:W1.length=W2.length) :
  cq [dS v1 W1,dS v2 W2]=ah (true,.list (tab v1 v2 W1 W2 h)):=by
 have hv1:=w1.hv
 have hv2:=w2.hv
 have hr:=w1.hr
 have n1:=qM (vs:=v1) w1.n
 have n2:=qM (vs:=v2) w2.n
 have m1:=BK w1
 have m2:=BK w2
 have a0:jE [PyData.tuple (v1.map PyData.int),.tuple (W1.map PyData.tuple)] 0=some (.tuple (v1.map PyData.int)):=rfl
 have a1:jE [PyData.tuple (v1.map PyData.int),.tuple (W1.map PyData.tuple)] 1=some (.tuple (W1.map PyData.tuple)):=rfl
 have b0:jE [PyData.tuple (v2.map PyData.int),.tuple (W2.map PyData.tuple)] 0=some (.tuple (v2.map PyData.int)):=rfl
 have b1:jE [PyData.tuple (v2.map PyData.int),.tuple (W2.map PyData.tuple)] 1=some (.tuple (W2.map PyData.tuple)):=rfl
 have hml:(v1.map PyData.int).length=h:=by rw[K4];exact hv1
 have hc:=jX (fe:=kZ) (cap:=[fA (dS v1 W1),fA (dS v2 W2)]) ((List.range h).map λ(i:Nat)=>PyData.int (i:Int))
  (λd=>match d with | .int k=>(.fr [],.bool (gp v1 v2 [] [] k.toNat)) | _=>(.fr [],.none)) (λd hd=>by
   obtain⟨k,hk,rfl⟩:=Ky.mp hd
   have hk:=X2.mp hk
   have hk1:k < v1.length:=by omega
   have hk2:k < v2.length:=by omega
   have ea:jE (v1.map PyData.int) (k:Int)=some (.int (v1.getD k 0)):=cW (by rw[Kj,KW,K5 hk1];rfl)
   have eb:jE (v2.map PyData.int) (k:Int)=some (.int (v2.getD k 0)):=cW (by rw[Kj,KW,K5 hk2];rfl)
   have ez:=JM (v1:=v1) (v2:=v2) (k:=k) (by omega) (by omega) hk1
   simp(disch:=omega) only[kZ,rn,reduceIte,dS,a0,b0,ea,eb,ao n1,ao n2,ao (c_ v1),ao (c_ v2),K0,ez])
 have e1:(((List.range h).map λ(i:Nat)=>PyData.int (i:Int)).map λd=>match d with | .int k=>(Kd.fr [],PyData.bool (gp v1 v2 [] [] k.toNat)) | _=>(Kd.fr [],PyData.none))=(List.range h).map λk=>(Kd.fr [],PyData.bool (gp v1 v2 [] [] k)):=by
  rw[X7];refine U5 λk _=> ?_;simp only[Function.comp,K0]
 rw[e1] at hc
 have k1:=gM (List.range h) λk=>PyData.bool (gp v1 v2 [] [] k)
 have e2:((List.range h).map λk=>(Kd.fr [],PyData.bool (gp v1 v2 [] [] k))).map Prod.snd=tab v1 v2 [] [] h:=by rw[X7];rfl
 have hle:h<=100000:=by omega
 obtain⟨Γ',h1,c4,c6,c7,c8,c9,h2⟩:=bo (g:=cS 4) (b:=k6) (ds:=(List.range W1.length).map λ(i:Nat)=>PyData.int (i:Int)) (Γ:=[fA (dS v1 W1),fA (dS v2 W2),tN h,tL (tab v1 v2 [] [] h),none,none,none,none,none,none])
  (λi Γ=>∃c4 c6 c7 c8 c9:Option (Bool×Ju),Γ=[fA (dS v1 W1),fA (dS v2 W2),tN h,tL (tab v1 v2 (W1.take i) (W2.take i) h),c4,none,c6,c7,c8,c9]) ⟨none,none,none,none,none,by simp⟩ (by
  rintro i d Γ hd ⟨c4,c6,c7,c8,c9,rfl⟩
  obtain⟨rfl,hi⟩:=cy hd
  have hi2:i < W2.length:=hl ▸ hi
  obtain⟨Γ',g1,lP,gR,B6,jG,g2⟩:=bo (g:=cS 6) (b:=jc) (ds:=(List.range h).map λ(i:Nat)=>PyData.int (i:Int)) (Γ:=[fA (dS v1 W1),fA (dS v2 W2),tN h,tL (tab v1 v2 (W1.take i) (W2.take i) h),tN i,tL [],c6,c7,c8,c9])
   (λj Γ=>∃c6 c7 c8 c9:Option (Bool×Ju),Γ=[fA (dS v1 W1),fA (dS v2 W2),tN h,tL (tab v1 v2 (W1.take i) (W2.take i) h),tN i,tL (tab v1 v2 (W1.take (i+1)) (W2.take (i+1)) j),c6,c7,c8,c9]) ⟨c6,c7,c8,c9,rfl⟩ (by
   rintro j d Γ hd ⟨c6,c7,c8,c9,rfl⟩
   obtain⟨rfl,hj⟩:=cy hd
   have wa:jE (W1.map PyData.tuple) (i:Int)=some (.tuple W1[i]):=cW (by rw[Kj,K5 hi];rfl)
   have wb:jE (W2.map PyData.tuple) (i:Int)=some (.tuple W2[i]):=cW (by rw[Kj,K5 hi2];rfl)
   have Wu:=w1.n _ (Xy hi)
   have Wv:=w2.n _ (Xy hi2)
   have sa:=mC h j W1[i] hh (w1.l _ (Xy hi))
   have sb:=mC h j W2[i] hh (w2.l _ (Xy hi2))
   have st:=JN (v1:=v1) (v2:=v2) (W1:=W1) (W2:=W2) (k:=j) (i:=i) (by omega) (by omega) hl (by omega) hi
   rw[hv1] at st
   have et:tab v1 v2 (W1.take (i+1)) (W2.take (i+1)) (j+1)=tab v1 v2 (W1.take (i+1)) (W2.take (i+1)) j++[.bool (gp v1 v2 (W1.take (i+1)) (W2.take (i+1)) j)]:=by
    unfold tab;rw[Y8,X6];rfl
   have ns:aq ((bv h W1[i] j).map nat)=true:=aP _ (λ_=>rfl) _
   have Ww:aq ((bv h W2[i] j).map nat)=true:=aP _ (λ_=>rfl) _
   have la:lay 60 (.tuple ((bv h W1[i] j).map nat))=true:=by rw[lay];exact j0 _ (λ_=>rfl) _
   have lb:lay 60 (.tuple ((bv h W2[i] j).map nat))=true:=by rw[lay];exact j0 _ (λ_=>rfl) _
   have eq:=PF la lb
   have pa:∀l:List Nat,pl (.tuple (l.map nat))=true:=λl=>by
    rw[pl];exact mF.mpr λx hx=>by
     obtain⟨o,_,rfl⟩:=Ky.mp hx;rfl
   have ed:PyData.eqv (.tuple ((bv h W1[i] j).map nat)) (.tuple ((bv h W2[i] j).map nat))=decide (bv h W1[i] j=bv h W2[i] j):=by
    rw[Uz,mG (pa _) (pa _),J9]
    exact⟨λz=>HI (PyData.tuple.inj z),λz=>by rw[z]⟩
   rw[ed] at eq
   have hsz:(tab v1 v2 (W1.take (i+1)) (W2.take (i+1)) j).length < sizeLine:=X0 (show _<=4 by unfold tab;rw[K4,X9];omega) (by decide)
   have ej:jE (tab v1 v2 (W1.take i) (W2.take i) h) (j:Int)=some (.bool (gp v1 v2 (W1.take i) (W2.take i) j)):=cW (by unfold tab;rw[Kj,U4 hj];rfl)
   obtain⟨jG,hf⟩:=MH (fA (dS v1 W1)) (fA (dS v2 W2)) (tN h) (tN i) (tL (tab v1 v2 (W1.take (i+1)) (W2.take (i+1)) j)) (tN j) (tT ((bv h W1[i] j).map nat)) c9 (gp v1 v2 (W1.take i) (W2.take i)) h (bv h W1[i] j) (λo ho=>kL ho)
    (gp v1 v2 (W1.take i) (W2.take i) j && decide (bv h W1[i] j=bv h W2[i] j))
   rw[←st] at hf
   refine⟨_,[fA (dS v1 W1),fA (dS v2 W2),tN h,tL (tab v1 v2 (W1.take i) (W2.take i) h),tN i,tL (tab v1 v2 (W1.take (i+1)) (W2.take (i+1)) (j+1)),tN j,tT ((bv h W1[i] j).map nat),tB (gp v1 v2 (W1.take (i+1)) (W2.take (i+1)) j),jG],rfl,.inl ?_,_,_,_,_,rfl⟩
   rw[et]
   have tb:((List.range h).map λk=>PyData.bool (gp v1 v2 (W1.take i) (W2.take i) k))=tab v1 v2 (W1.take i) (W2.take i) h:=rfl
   rw[tb] at hf
   simp only[dS] at hf⊢
   generalize W1[i]=Wa at*
   generalize W2[i]=Wb at*
   generalize hB:gp v1 v2 (W1.take i) (W2.take i) j=B0 at*
   cases B0 with
   | false=>
    rw[Y9] at hf
    simp(disch:=omega) only[jc,rn,reduceIte,a0,a1,b0,b1,wa,wb,sa,sb,eq,ej,ao n1,ao n2,ao m1,ao m2,ao Wu,ao Wv,ao ns,ao Ww,hf,hsz]
   | true=>
    rw[UZ] at hf
    simp(disch:=omega) only[jc,rn,reduceIte,a0,a1,b0,b1,wa,wb,sa,sb,eq,ej,ao n1,ao n2,ao m1,ao m2,ao Wu,ao Wv,ao ns,ao Ww,hf,hsz])
  rw[K4,X9] at g2
  refine⟨_,[fA (dS v1 W1),fA (dS v2 W2),tN h,tL (tab v1 v2 (W1.take (i+1)) (W2.take (i+1)) h),tN i,none,lP,gR,B6,jG],rfl,.inl ?_,_,_,_,_,_,rfl⟩
  simp(disch:=omega) only[k6,rn,reduceIte,K0,g1,g2,Nat.reduceEqDiff])
 rw[K4,X9,UW,hl,UW] at h2
 have VF:(W1.map PyData.tuple).length=W1.length:=K4 _
 simp only[dS] at h1 h2 hc
 rw[hl] at h1
 simp(disch:=omega) only[cq,nE,cI,rn,reduceIte,dS,a0,a1,ao n1,ao m1,ao (c_ v1),hv1,hml,VF,hl,K0,hc,k1,e2,hle,h1,h2]
theorem Wx (vs:List Int)(Ws:List (List Ju)):dU (dS vs Ws) (.int 0)=some (.tuple (vs.map PyData.int)):=rfl
theorem Xm (vs:List Int)(Ws:List (List Ju)):dU (dS vs Ws) (.int 1)=some (.tuple (Ws.map PyData.tuple)):=rfl
def sp (p:Nat×Nat):Ju:=.tuple [.int (p.1:Int),.int (p.2:Int)]
def enc (l:List (Nat×Nat)):List (Ju×Ju):=l.map λp=>(sp p,.bool true)
def ins (l:List (Nat×Nat))(p:Nat×Nat):List (Nat×Nat):=if p∈l then l else l++[p]
theorem RG (p q:Nat×Nat):PyData.eqv (sp p) (sp q)=decide (p=q):=by
 obtain⟨a,b⟩:=p
 obtain⟨c,d⟩:=q
 have e:PyData.eqv (sp (a,b)) (sp (c,d))=((a:Int)==(c:Int) && ((b:Int)==(d:Int) && true)):=by simp[sp,PyData.eqv,PyData.eqvAll]
 rw[e,Uz,J9,Prod.mk.injEq]
 simp only[Bool.and_true,KQ,YQ]
 omega
theorem Ez (l:List (Nat×Nat))(p:Nat×Nat):pw (enc l) (sp p)=decide (p∈l):=by
 unfold pw enc
 rw[List.any_map]
 induction l with
 | nil=>rfl
 | cons q l ih=>
  rw[Y1,ih]
  simp only[Function.comp,RG]
  by_cases h:q=p
  ·simp[h]
  ·have h':¬ p=q:=λz=>h z.symm
   simp[h,h']
theorem EA (l:List (Nat×Nat))(p:Nat×Nat):putK (enc l) (sp p) (.bool true)=enc (ins l p):=by
 unfold putK ins
 rw[Ez]
 by_cases h:p∈l
 ·rw[J5 (J4 h),J5 h]
  unfold enc
  rw[X7]
  refine U5 λq _=> ?_
  simp only[Function.comp]
  split <;> rfl
 ·rw[J6 (by rw[J3 h];exact K3),J6 h]
  unfold enc
  rw[X6];rfl
theorem y4:∀(m l:List (Nat×Nat)),se (enc l) (enc m)=enc (m.foldl ins l)
 | [],l=>rfl
 | p :: m,l=>by
  show se (putK (enc l) (sp p) (.bool true)) (enc m)=_
  rw[EA,y4 m];rfl
theorem BL {l:List (Nat×Nat)}{p q:Nat×Nat}:q∈ins l p↔q∈l∨q=p:=by
 unfold ins
 split
 ·rename_i h
  exact⟨.inl,λz=>z.elim id λe=>e ▸ h⟩
 ·simp
theorem y6:∀{m l:List (Nat×Nat)} {q:Nat×Nat},q∈m.foldl ins l↔q∈l∨q∈m
 | [],l,q=>by simp
 | p :: m,l,q=>by
  rw[Y7,y6 (m:=m),BL,K2]
  exact⟨λz=>z.elim (λy=>y.elim .inl λe=> .inr (.inl e)) λy=> .inr (.inr y),λz=>z.elim (λy=> .inl (.inl y)) λy=>y.elim (λe=> .inl (.inr e)) .inr⟩
theorem y7 {l:List (Nat×Nat)}{p:Nat×Nat}(h:l.Nodup):(ins l p).Nodup:=by
 unfold ins
 split
 ·exact h
 ·rename_i hp
  refine XX.mpr ⟨h,KJ.mpr ⟨by simp,X3⟩,λa ha b hb e=>hp ?_⟩
  rw[←K7.mp hb,←e];exact ha
theorem sE:∀{m l:List (Nat×Nat)},l.Nodup->(m.foldl ins l).Nodup
 | [],l,h=>h
 | p :: m,l,h=>sE (m:=m) (y7 h)
theorem HK (l:List (Nat×Nat))(p:Nat×Nat):(ins l p).length<=l.length+1:=by
 unfold ins;split
 ·omega
 ·rw[Kx,X8];omega
theorem rV:∀(m l:List (Nat×Nat)),(m.foldl ins l).length<=l.length+m.length
 | [],l=>Ku _
 | p :: m,l=>by
  have h1:=rV m (ins l p)
  have h2:=HK l p
  rw[Y7,Kv];omega
theorem MI (l:List (Nat×Nat))(p:Nat×Nat):ins l p≠[]:=λz=>by
 have:p∈ins l p:=BL.mpr (.inr rfl)
 rw[z] at this;cases this
theorem w6:∀{m l:List (Nat×Nat)},l≠[]->m.foldl ins l≠[]
 | [],l,h=>h
 | p :: m,l,h=>w6 (m:=m) (MI l p)
def OW:List (Nat×Nat):=(List.range 4).flatMap λa=>(List.range 6).map λb=>(a,b)
theorem JO:(OW.map λp=>iK (sp p))=[-8458139203682520985,-1950498447580522560,7204814214171964562,-4734289103435588629,1773351652666409796,
  -3119722376306286570,-5164621852614943976,8389048192121911274,-3550055125485641917,-1440771752368011620,
  -6333845781340707986,173794974761290439,4685526799349444076,6794810172467074373,1901736143494378007,
  8409376899596376432,3516302870623680066,-8422800446983873125,2248468952609198383,8756109708711196808,
  3863035679738500442,5972319052856130739,1079245023883434373,7586885779985432798]:=by decide+kernel
theorem GG:(OW.map λp=>iK (sp p)).Nodup:=by rw[JO];decide+kernel
theorem MJ {α:Type}(f:α->Int):∀{l:List α},(l.map f).Nodup->∀{p q:α},p∈l->q∈l->f p=f q->p=q
 | x :: l,h,p,q,hp,hq,e=>by
  rw[KZ,KJ] at h
  rcases K2.mp hp with z1 | z1
  ·rcases K2.mp hq with z2 | z2
   ·rw[z1,z2]
   ·refine absurd ?_ h.1
    rw[←z1,e];exact Y5 z2
  ·rcases K2.mp hq with z2 | z2
   ·refine absurd ?_ h.1
    rw[←z2,←e];exact Y5 z1
   ·exact MJ f h.2 z1 z2 e
theorem EB {α:Type}(f:α->Int):∀{l:List α},l.Nodup->(∀p∈l,∀q∈l,f p=f q->p=q)->(l.map f).Nodup
 | [],_,_=>X3
 | x :: l,h,hf=>by
  rw[KJ] at h
  rw[KZ,KJ]
  refine⟨λz=> ?_,EB f h.2 λp hp q hq=>hf p (K9 _ hp) q (K9 _ hq)⟩
  obtain⟨y,hy,e⟩:=Ky.mp z
  exact h.1 (hf y (K9 _ hy) x K8 e ▸ hy)
theorem EC {p:Nat×Nat}(h:p.1 < 4/\p.2 < 6):p∈OW:=by
 unfold OW
 exact U1.mpr ⟨p.1,X2.mpr h.1,Ky.mpr ⟨p.2,X2.mpr h.2,rfl⟩⟩
theorem MK (f:Ju->Int)(l:List (Nat×Nat)):((enc l).map λp=>f p.1)=l.map λp=>f (sp p):=by unfold enc;rw[X7];rfl
theorem GH {l:List (Nat×Nat)}(h:l.Nodup)(hb:∀p∈l,p.1 < 4/\p.2 < 6):((enc l).map λp=>iK p.1).Nodup:=by
 rw[MK iK]
 exact EB _ h λp hp q hq e=>MJ _ GG (EC (hb p hp)) (EC (hb q hq)) e
theorem qP (l:List (Nat×Nat)):gB (enc l)=true:=by
 unfold gB enc
 rw[X7];exact aP _ (λ_=>rfl) l
theorem OX (p:Nat×Nat):fM (sp p)=true:=rfl
theorem oz (l:List (Nat×Nat)):((enc l).all λp=>fM p.1)=true:=by
 unfold enc;rw[List.all_map,Uv];intro p _;rfl
theorem y8 {l:List (Nat×Nat)}(h:l≠[]):(enc l).isEmpty=false:=by
 cases l with
 | nil=>exact absurd rfl h
 | cons p l=>rfl
theorem BM (l:List (Nat×Nat)):(enc l).length=l.length:=K4 _
theorem ED {l:List (Nat×Nat)}(h0:l≠[])(hn:l.Nodup)(hb:∀p∈l,p.1 < 4/\p.2 < 6):uq [.dict (enc l)]=some (.dict (enc l)):=J5 ⟨y8 h0,oz l,qP l,GH hn hb⟩
theorem ML {l m:List (Nat×Nat)}(h0:l≠[])(hz:l.length+m.length<=sizeLine):Iu 8 (.fr [3]) (enc l) (.dict (enc m))=some (enc (m.foldl ins l)):=by
 simp only[Iu]
 rw[J5 ⟨rfl,.inl ⟨y8 h0,oz l,oz m⟩,qP l,qP m,by rw[BM,BM];exact hz⟩,y4]
theorem EG (l:List (Nat×Nat))(p:Nat×Nat):Cp (sp p) (.dict (enc l))=some (.bool (decide (p∈l))):=by
 simp only[Cp]
 rw[J5 (show gA (enc l) (sp p)=true by unfold gA jv;rw[oz,OX];rfl),Ez]
def uk (h:Nat)(W:List Ju)(f:Nat->List (Nat×Nat))(k:Nat)(S:List Nat):List (Nat×Nat):=S.foldl (λacc s=>(f s).foldl ins acc) (f k)
def Lk (h:Nat)(Ws:List (List Ju)):Nat->Nat->List (Nat×Nat)
 | 0,k=> [(k,0)]
 | i+1,k=>ins (uk h (Ws.getD i []) (Lk h Ws i) k (bv h (Ws.getD i []) k)) (k,i+1)
theorem EH {h:Nat}{W:List Ju}{f:Nat->List (Nat×Nat)}{q:Nat×Nat}:∀{S:List Nat} {l:List (Nat×Nat)},q∈S.foldl (λacc s=>(f s).foldl ins acc) l↔q∈l∨∃s∈S,q∈f s
 | [],l=>by simp
 | s :: S,l=>by
  rw[Y7,EH (h:=h) (W:=W) (S:=S),y6]
  simp only[K2,exists_eq_or_imp]
  exact or_assoc
theorem w9 {h:Nat}{Ws:List (List Ju)}{i k:Nat}{q:Nat×Nat}:q∈Lk h Ws (i+1) k↔(q∈Lk h Ws i k∨∃s∈bv h (Ws.getD i []) k,q∈Lk h Ws i s)∨q=(k,i+1):=by
 rw[Lk,BL,uk,EH (h:=h) (W:=Ws.getD i [])]
theorem HL {h:Nat}{W:List Ju}{f:Nat->List (Nat×Nat)}{k c:Nat}(h0:f k≠[])(hn:(f k).Nodup)(hl:∀s,(f s).length<=c):∀{S:List Nat},uk h W f k S≠[]/\(uk h W f k S).Nodup/\(uk h W f k S).length<=c+S.length*c:=by
 intro S
 have:∀(S:List Nat) (l:List (Nat×Nat)),l≠[]->l.Nodup->S.foldl (λacc s=>(f s).foldl ins acc) l≠[]/\(S.foldl (λacc s=>(f s).foldl ins acc) l).Nodup/\(S.foldl (λacc s=>(f s).foldl ins acc) l).length<=l.length+S.length*c:=by
  intro S
  induction S with
  | nil=>intro l a b;exact⟨a,b,by simp⟩
  | cons s S ih=>
   intro l a b
   obtain⟨x,y,z⟩:=ih _ (w6 (m:=f s) a) (sE (m:=f s) b)
   have:=rV (f s) l
   have:=hl s
   refine⟨x,y,?_⟩
   rw[Y7,Kv,UX];omega
 obtain⟨x,y,z⟩:=this S (f k) h0 hn
 have:=hl k
 exact⟨x,y,by unfold uk;omega⟩
theorem EI (h:Nat)(W:List Ju)(k:Nat)(hh:h<=4):(bv h W k).length<=4:=Kq (Xq _ _) (by rw[X9];exact hh)
theorem PL {h:Nat}{Ws:List (List Ju)}(hh:h<=4):∀(i k:Nat),Lk h Ws i k≠[]/\(Lk h Ws i k).Nodup/\(Lk h Ws i k).length<=6^i
 | 0,k=>⟨by simp[Lk],by simp[Lk],by simp[Lk]⟩
 | i+1,k=>by
  have ih:=PL (Ws:=Ws) hh i
  obtain⟨x,y,z⟩:=HL (h:=h) (W:=Ws.getD i []) (f:=Lk h Ws i) (k:=k) (c:=6^i) (ih k).1 (ih k).2.1 (λs=>(ih s).2.2) (S:=bv h (Ws.getD i []) k)
  refine⟨MI _ _,y7 y,?_⟩
  have h1:=HK (uk h (Ws.getD i []) (Lk h Ws i) k (bv h (Ws.getD i []) k)) (k,i+1)
  have h2:=EI h (Ws.getD i []) k hh
  have h3:(bv h (Ws.getD i []) k).length*6^i<=4*6^i:=Nat.mul_le_mul_right _ h2
  have h4:0 < 6^i:=Nat.pow_pos (by decide)
  rw[Lk,Nat.pow_succ];omega
theorem MM {h:Nat}{Ws:List (List Ju)}:∀(i k:Nat),k < h->∀q∈Lk h Ws i k,q.1 < h/\q.2<=i
 | 0,k,hk,q,hq=>by
  rw[Lk,K7] at hq;subst hq;exact⟨hk,Ku _⟩
 | i+1,k,hk,q,hq=>by
  rcases w9.mp hq with(hq | ⟨s,hs,hq⟩) | hq
  ·have:=MM i k hk q hq;exact⟨this.1,Nat.le_succ_of_le this.2⟩
  ·have:=MM i s (kL hs) q hq;exact⟨this.1,Nat.le_succ_of_le this.2⟩
  ·subst hq;exact⟨hk,Ku _⟩
theorem HM {h:Nat}{Ws:List (List Ju)}(hh:h<=4):∀(i:Nat),i<=Ws.length->∀(H:List Nat),(∀k∈H,k < h)->∀(o j:Nat),(∃k∈H,(o,j)∈Lk h Ws i k)↔j<=i/\o∈hs h ((Ws.take i).drop j).reverse H
 | 0,_,H,hH,o,j=>by
  simp only[Lk,K7,Prod.mk.injEq,List.take_zero,List.drop_nil,List.reverse_nil,hs]
  constructor
  ·rintro⟨k,hk,rfl,rfl⟩;exact⟨Ku _,hk⟩
  ·rintro⟨hj,ho⟩;exact⟨o,ho,rfl,by omega⟩
 | i+1,hi,H,hH,o,j=>by
  have hi':i < Ws.length:=by omega
  have eW:Ws.getD i []=Ws[i]:=by rw[KW,K5 hi'];rfl
  have ih:=HM (Ws:=Ws) hh i (by omega) (iN h Ws[i] H) (wZ hH) o j
  have key:(∃k∈H,(o,j)∈Lk h Ws (i+1) k)↔(∃k∈iN h Ws[i] H,(o,j)∈Lk h Ws i k)∨(j=i+1/\o∈H):=by
   constructor
   ·rintro⟨k,hk,hq⟩
    rcases w9.mp hq with(hq | ⟨s,hs',hq⟩) | hq
    ·exact .inl ⟨k,(qN hh hH k).mpr (KY _ hk),hq⟩
    ·rw[eW] at hs'
     exact .inl ⟨s,(qN hh hH s).mpr (K1 _ (U1.mpr ⟨k,hk,hs'⟩)),hq⟩
    ·obtain⟨rfl,rfl⟩:=Prod.mk.inj hq
     exact .inr ⟨rfl,hk⟩
   ·rintro(⟨k,hk,hq⟩ | ⟨rfl,ho⟩)
    ·rcases Kk.mp ((qN hh hH k).mp hk) with hk | hk
     ·exact⟨k,hk,w9.mpr (.inl (.inl hq))⟩
     ·obtain⟨k',hk',hs'⟩:=U1.mp hk
      exact⟨k',hk',w9.mpr (.inl (.inr ⟨k,by rw[eW];exact hs',hq⟩))⟩
    ·exact⟨o,ho,w9.mpr (.inr rfl)⟩
  rw[key,ih]
  have et:Ws.take (i+1)=Ws.take i++[Ws[i]]:=by rw[UY,K5 hi'];rfl
  have el:(Ws.take i).length=i:=by rw[Uk];omega
  by_cases hj:j<=i
  ·have ed:((Ws.take (i+1)).drop j).reverse=Ws[i] :: ((Ws.take i).drop j).reverse:=by
    rw[et,List.drop_append_of_le_length (by rw[el];exact hj),List.reverse_append];rfl
   rw[ed,hs]
   exact⟨λz=>z.elim (λy=>⟨by omega,y.2⟩) λy=>by omega,λz=> .inl ⟨hj,z.2⟩⟩
  ·have ed:((Ws.take (i+1)).drop (i+1)).reverse=[]:=by
    have z:(Ws.take (i+1)).drop (i+1)=[]:=List.drop_eq_nil_of_le (by rw[Uk];omega)
    rw[z];rfl
   constructor
   ·rintro(y | ⟨rfl,ho⟩)
    ·omega
    ·refine⟨Ku _,?_⟩
     rw[ed];exact ho
   ·rintro⟨hj',ho⟩
    have:j=i+1:=by omega
    subst this
    rw[ed] at ho
    exact .inr ⟨rfl,ho⟩
theorem HN {h:Nat}{Ws:List (List Ju)}{hand:Nat}(hh:h<=4)(hd:hand < h)(o j:Nat):(o,j)∈Lk h Ws Ws.length hand↔j<=Ws.length/\o∈hs h (Ws.drop j).reverse [hand]:=by
 have:=HM (Ws:=Ws) hh Ws.length (Ku _) [hand] (λk hk=>by rw[K7.mp hk];exact hd) o j
 rw[UW] at this
 rw[←this];simp
theorem EJ {h:Nat}:∀(R:List (List Ju)) (H:List Nat) (m:Nat) (hm:m < R.length),(rows h R H)[m]? =some (.tuple ((List.range h).map (cV h R[m] (hs h (R.take m) H))))
 | W :: R,H,0,_=>by rw[rows,List.getElem?_cons_zero,List.take_zero,hs];rfl
 | W :: R,H,m+1,hm=>by
  rw[rows,Yw,EJ R (iN h W H) m (by simpa using hm)]
  simp only[List.getElem_cons_succ,List.take_succ_cons,hs]
theorem MN {h:Nat}{Ws:List (List Ju)}{hand m:Nat}(hm:m < Ws.length):(rows h Ws.reverse [hand]).reverse[m]? =some (.tuple ((List.range h).map (cV h Ws[m] (hs h (Ws.drop (m+1)).reverse [hand])))):=by
 have hl:(rows h Ws.reverse [hand]).length=Ws.length:=by rw[qK,XZ]
 rw[List.getElem?_reverse (by omega),hl,EJ _ _ _ (by rw[XZ];omega)]
 have e1:Ws.reverse[Ws.length - 1 - m]'(by rw[XZ];omega)=Ws[m]:=by rw[List.getElem_reverse];congr 1;omega
 have e2:Ws.reverse.take (Ws.length - 1 - m)=(Ws.drop (m+1)).reverse:=by
  rw[List.take_reverse];congr 2;omega
 rw[e1,e2]
abbrev Slot:=Option (Bool×Ju)
def mR (h:Nat)(f:Nat->List (Nat×Nat)):List Ju:=(List.range h).map λk=> .dict (enc (f k))
theorem BN {h k:Nat}{f:Nat->List (Nat×Nat)}(hk:k < h):jE (mR h f) (k:Int)=some (.dict (enc (f k))):=cW (by unfold mR;rw[Kj,U4 hk];rfl)
theorem MO (o:Nat):i6 [fN o]=ah (.fr [],.dict (enc [(o,0)])):=by
 have hk:fM (.tuple [.int (o:Int),.int 0])=true:=rfl
 have n2:aq [PyData.int (o:Int),.int 0]=true:=rfl
 simp(disch:=omega) only[i6,Cq,rn,reduceIte,hk,ao n2,and_self]
 rfl
theorem MP (c0 c1 c2 c4 c5 c6 c7 c9 c10 w_ c12:Slot)(h c:Nat)(f:Nat->List (Nat×Nat))(hl:∀s,(f s).length<=c)(S:List Nat)(hS:∀s∈S,s < h)(l0:List (Nat×Nat))(h0:l0≠[])(hz:l0.length+S.length*c<=100000) :
  ∃jG:Slot,bj (cS 9) i7 (S.map nat) [c0,c1,c2,tL (mR h f),c4,c5,c6,c7,tD (enc l0),c9,c10,w_,c12]=
   ah (.nx [c0,c1,c2,tL (mR h f),c4,c5,c6,c7,tD (enc (S.foldl (λacc s=>(f s).foldl ins acc) l0)),jG,c10,w_,c12]):=by
 have len:∀(S:List Nat) (l:List (Nat×Nat)),(S.foldl (λacc s=>(f s).foldl ins acc) l).length<=l.length+S.length*c:=by
  intro S
  induction S with
  | nil=>intro l;simp
  | cons s S ih=>
   intro l
   have:=ih ((f s).foldl ins l)
   have:=rV (f s) l
   have:=hl s
   rw[Y7,Kv,UX];omega
 have ne:∀(S:List Nat) (l:List (Nat×Nat)),l≠[]->S.foldl (λacc s=>(f s).foldl ins acc) l≠[]:=by
  intro S
  induction S with
  | nil=>intro l a;exact a
  | cons s S ih=>intro l a;exact ih _ (w6 (m:=f s) a)
 obtain⟨Γ',g1,jG,g2⟩:=bo (g:=cS 9) (b:=i7) (ds:=S.map nat) (Γ:=[c0,c1,c2,tL (mR h f),c4,c5,c6,c7,tD (enc l0),c9,c10,w_,c12])
  (λi Γ=>∃jG:Slot,Γ=[c0,c1,c2,tL (mR h f),c4,c5,c6,c7,tD (enc ((S.take i).foldl (λacc s=>(f s).foldl ins acc) l0)),jG,c10,w_,c12]) ⟨c9,by simp⟩ (by
  rintro i d Γ hd ⟨jG,rfl⟩
  have hi:i < S.length:=by have:=(X5.mp hd).1;simpa using this
  rw[Kj,K5 hi] at hd
  have hd':nat S[i]=d:=Option.some.inj hd
  subst hd'
  have hs:=hS _ (Xy hi)
  have et:S.take (i+1)=S.take i++[S[i]]:=by rw[UY,K5 hi];rfl
  refine⟨_,[c0,c1,c2,tL (mR h f),c4,c5,c6,c7,tD (enc ((S.take (i+1)).foldl (λacc s=>(f s).foldl ins acc) l0)),tA (nat S[i]),c10,w_,c12],rfl,.inl ?_,_,rfl⟩
  rw[et,List.foldl_append,Y7,List.foldl_nil]
  have hlen:=len (S.take i) l0
  have hmul:(S.take i).length*c+c<=S.length*c:=by
   rw[←UX];exact Nat.mul_le_mul_right _ (by rw[Uk];omega)
  have hne:=ne (S.take i) l0 h0
  have hfs:=hl S[i]
  generalize (S.take i).foldl (λacc s=>(f s).foldl ins acc) l0=l at*
  generalize S[i]=s at*
  have ek:=BN (f:=f) hs
  have eu:=ML (l:=l) (m:=f s) hne (Kq (show _<=100000 by omega) (by decide))
  simp(disch:=omega) only[i7,He,rn,reduceIte,nat,ek,eu])
 rw[K4,UW] at g2
 exact⟨jG,by rw[g1,g2]⟩
theorem RH (c0 c1 c9 c10 w_ c12:Slot)(h c i j:Nat)(hh:h<=4)(hj:j < h)(hi:i < 5)(W:List Ju)(nW:aq W=true)(hW:lays 60 W=true)(f:Nat->List (Nat×Nat))(hl:∀s,(f s).length<=c)(hc:c<=10000)(h0:∀s,f s≠[])(hn:∀s,(f s).Nodup)(hb:∀s,s < h->∀p∈f s,p.1 < h/\p.2<=i)(TB:List Ju)(ha:TB.length < 10) :
  ∃jG:Slot,i8 [c0,c1,tN h,tL (mR h f),tN i,tT W,tL TB,tN j,none,c9,c10,w_,c12]=
   ah (.nx [c0,c1,tN h,tL (mR h f),tN i,tT W,tL (TB++[.dict (enc (ins (uk h W f j (bv h W j)) (j,i+1)))]),tN j,none,jG,c10,w_,c12]):=by
 have ek:=BN (f:=f) hj
 have gd:=ED (h0 j) (hn j) λp hp=>⟨by have:=(hb j hj p hp).1;omega,by have:=(hb j hj p hp).2;omega⟩
 have sn:=mC h j W hh hW
 have nS:aq ((bv h W j).map nat)=true:=aP _ (λ_=>rfl) _
 have sl:=EI h W j hh
 have XM:=hl j
 have hm:(bv h W j).length*c<=4*c:=Nat.mul_le_mul_right _ sl
 obtain⟨jG,hu⟩:=MP c0 c1 (tN h) (tN i) (tT W) (tL TB) (tN j) c9 c10 w_ c12 h c f hl (bv h W j) (λs hs=>kL hs) (f j) (h0 j) (by omega)
 have e1:((i:Int)+1)=((i+1:Nat):Int):=by omega
 obtain⟨_,_,gl⟩:=HL (h:=h) (W:=W) (f:=f) (k:=j) (c:=c) (h0 j) (hn j) hl (S:=bv h W j)
 have eg:(bv h W j).foldl (λacc s=>(f s).foldl ins acc) (f j)=uk h W f j (bv h W j):=rfl
 rw[eg] at hu
 generalize uk h W f j (bv h W j)=G at*
 have hk:fM (.tuple [.int (j:Int),.int ((i+1:Nat):Int)])=true:=rfl
 have n2:aq [PyData.int (j:Int),.int ((i+1:Nat):Int)]=true:=rfl
 have hp:putK (enc G) (.tuple [.int (j:Int),.int ((i+1:Nat):Int)]) (.bool true)=enc (ins G (j,i+1)):=EA G (j,i+1)
 have hsz:(enc G).length < sizeLine:=by rw[BM];exact X0 (show _<=100000 by omega) (by decide)
 have hsz2:TB.length < sizeLine:=X4 ha (by decide)
 have nv:=qP G
 have hom:gA (enc G) (.tuple [.int (j:Int),.int ((i+1:Nat):Int)])=true:=by unfold gA jv;rw[oz,hk];rfl
 refine⟨jG,?_⟩
 simp(disch:=omega) only[i8,yw,uN,hom,rn,reduceIte,ek,gd,sn,ao nW,ao nS,hu,e1,hk,ao n2,nv,hsz,hp,hsz2,and_self,ne_eq,Nat.reduceEqDiff,not_false_eq_true,and_true]
theorem EK {Ws:List (List Ju)}{i:Nat}{d:Ju}(h:(gn 0 (Ws.map PyData.tuple))[i]? =some d):∃hi:i < Ws.length,d= .tuple [.int (i:Int),.tuple Ws[i]]:=by
 rw[L2.lD,Kj] at h
 by_cases hi:i < Ws.length
 ·rw[K5 hi] at h
  exact⟨hi,by have:=Option.some.inj h;rw[←this,Nat.zero_add]⟩
 ·rw[Xz (by omega)] at h;cases h
theorem PM (c0 c1 c2 c3 c4 c5 c6 c7 c8 c9 c10 w_ c12:Slot)(i:Nat)(W:List Ju)(nW:aq W=true) :
  mI [4,5] (eR .base (.tuple [.int (i:Int),.tuple W])) (.tuple [.int (i:Int),.tuple W]) [c0,c1,c2,c3,c4,c5,c6,c7,c8,c9,c10,w_,c12]=some [c0,c1,c2,c3,tN i,tT W,c6,c7,c8,c9,c10,w_,c12]:=by
 have n2:aq [PyData.int (i:Int),.tuple W]=true:=by simp only[aq,ql,eG,nW,Xv]
 rw[ao n2]
 simp only[mI,Kv,Uj,if_true,uL,Hd,uy,ao nW,kP,List.set_cons_zero,List.set_cons_succ]
theorem MQ {h b:Nat}{vs:List Int}{Ws:List (List Ju)}(w:uz h b vs Ws)(hh:h<=4)(c0 c1:Slot) :
  ∃c4 c5 c7 c9:Slot,bj (mI [4,5]) i9 (gn 0 (Ws.map PyData.tuple)) [c0,c1,tN h,tL (mR h (Lk h Ws 0)),none,none,none,none,none,none,none,none,none]=
   ah (.nx [c0,c1,tN h,tL (mR h (Lk h Ws Ws.length)),c4,c5,none,c7,none,c9,none,none,none]):=by
 obtain⟨Γ',g1,c4,c5,c7,c9,g2⟩:=bo (g:=mI [4,5]) (b:=i9) (ds:=gn 0 (Ws.map PyData.tuple)) (Γ:=[c0,c1,tN h,tL (mR h (Lk h Ws 0)),none,none,none,none,none,none,none,none,none])
  (λi Γ=>∃c4 c5 c7 c9:Slot,Γ=[c0,c1,tN h,tL (mR h (Lk h Ws i)),c4,c5,none,c7,none,c9,none,none,none]) ⟨_,_,_,_,rfl⟩ (by
  rintro i d Γ hd ⟨c4,c5,c7,c9,rfl⟩
  obtain⟨hi,rfl⟩:=EK hd
  have hr:=w.hr
  have nW:=w.n _ (Xy hi)
  have lW:=w.l _ (Xy hi)
  have eW:Ws.getD i []=Ws[i]:=by rw[KW,K5 hi];rfl
  have VG:=PL (Ws:=Ws) hh i
  have h6:6^i<=6^5:=Nat.pow_le_pow_right (by decide) (by omega)
  obtain⟨Γ',k1,gR,jG,k2⟩:=bo (g:=cS 7) (b:=i8) (ds:=(List.range h).map λ(i:Nat)=>PyData.int (i:Int)) (Γ:=[c0,c1,tN h,tL (mR h (Lk h Ws i)),tN i,tT Ws[i],tL [],c7,none,c9,none,none,none])
   (λj Γ=>∃c7 c9:Slot,Γ=[c0,c1,tN h,tL (mR h (Lk h Ws i)),tN i,tT Ws[i],tL (mR j (Lk h Ws (i+1))),c7,none,c9,none,none,none]) ⟨_,_,rfl⟩ (by
   rintro j d Γ hd ⟨c7,c9,rfl⟩
   obtain⟨rfl,hj⟩:=cy hd
   obtain⟨jG,e⟩:=RH c0 c1 c9 none none none h (6^i) i j hh hj (by omega) Ws[i] nW lW (Lk h Ws i) (λs=>(VG s).2.2) (Kq h6 (by decide)) (λs=>(VG s).1) (λs=>(VG s).2.1) (λs hs=>MM i s hs) (mR j (Lk h Ws (i+1))) (by unfold mR;rw[K4,X9];omega)
   refine⟨_,_,rfl,.inl e,tN j,jG,?_⟩
   have e2:mR (j+1) (Lk h Ws (i+1))=mR j (Lk h Ws (i+1))++[.dict (enc (ins (uk h Ws[i] (Lk h Ws i) j (bv h Ws[i] j)) (j,i+1)))]:=by
    unfold mR;rw[Y8,X6]
    have:Lk h Ws (i+1) j=ins (uk h Ws[i] (Lk h Ws i) j (bv h Ws[i] j)) (j,i+1):=by rw[Lk,eW]
    rw[KZ,Yx,this]
   rw[e2])
  rw[K4,X9] at k2
  refine⟨_,[c0,c1,tN h,tL (mR h (Lk h Ws (i+1))),tN i,tT Ws[i],none,gR,none,jG,none,none,none],PM _ _ _ _ _ _ _ _ _ _ _ _ _ i Ws[i] nW,.inl ?_,_,_,_,_,rfl⟩
  simp(disch:=omega) only[i9,rn,reduceIte,K0,k1,k2,Nat.reduceEqDiff])
 rw[L2.eX,K4] at g2
 exact⟨c4,c5,c7,c9,by rw[g1,g2]⟩
def pf (g:Nat->Ju)(i o:Nat):Ju:=if o < i then g o else .none
theorem MR {g:Nat->Ju}(hg:∀o,bL (g o)=true)(i o:Nat):bL (pf g i o)=true:=by unfold pf;split;exact hg o;rfl
theorem EL (g:Nat->Ju){i h:Nat}(hi:i < h):((List.range h).map (pf g i)).set i (g i)=(List.range h).map (pf g (i+1)):=by
 refine Yv (by simp) λm h1 h2=> ?_
 rw[List.getElem_set,Yz,Yz,List.getElem_range]
 by_cases hm:i=m
 ·subst hm;rw[J5 rfl,pf,J5 (by omega)]
 ·rw[J6 hm,pf,pf]
  by_cases hlt:m < i
  ·rw[J5 hlt,J5 (by omega)]
  ·rw[J6 hlt,J6 (by omega)]
theorem y9 (g:Nat->Ju){i h:Nat}(hg:g i= .none):(List.range h).map (pf g i)=(List.range h).map (pf g (i+1)):=by
 refine U5 λm _=> ?_
 unfold pf
 by_cases hlt:m < i
 ·rw[J5 hlt,J5 (by omega)]
 ·rw[J6 hlt]
  by_cases hm:m=i
  ·subst hm;rw[J5 (by omega),hg]
  ·rw[J6 (by omega)]
theorem JP (g:Nat->Ju)(h:Nat):(List.replicate h [PyData.none]).flatten=(List.range h).map (pf g 0):=by
 have:∀h:Nat,(List.replicate h [PyData.none]).flatten=List.replicate h PyData.none:=λh=>by
  induction h with
  | zero=>rfl
  | succ h ih=>rw[U6,UJ,ih,U6];rfl
 rw[this]
 refine Yv (by simp) λm h1 h2=> ?_
 rw[List.getElem_replicate,Yz,pf,J6 (by omega)]
theorem EM (g:Nat->Ju)(h:Nat):(List.range h).map (pf g h)=(List.range h).map g:=U5 λm hm=>by
 unfold pf;rw[J5 (X2.mp hm)]
theorem BO {n i:Nat}(h:i < n):Y.xq n (i:Int)=some i:=by
 unfold Y.xq;rw[J5 (by omega),J5 (by omega)];simp
theorem MS {xs:List Ju}{k:Int}(h:aq xs=true/\ -(2^63)<=k/\k < 2^63/\xs.length*k.toNat<=sizeLine):Ip xs (.int k)=ah (.fr [],.list (List.replicate k.toNat xs).flatten):=J5 h
theorem y_ (h:Nat)(hh:h<=4)(g:Nat->Ju):Ip [.none] (.int (h:Int))=ah (Kd.fr [],.list ((List.range h).map (pf g 0))):=by
 rw[←JP,MS ⟨rfl,by omega,by omega,Kq (show _<=4 by rw[K0,X8,Nat.one_mul];exact hh) (by decide)⟩,K0]
theorem JQ {h b:Nat}{vs:List Int}{Ws:List (List Ju)}(w:uz h b vs Ws)(hh:h<=4){hand:Nat}(hd:hand < h)(c4 c5 c7 c9:Slot) :
  ∃gR:Slot,bj (cS 7) gG ((List.range h).map λ(i:Nat)=>PyData.int (i:Int)) [fA (dS vs Ws),fN hand,tN h,tL (mR h (Lk h Ws Ws.length)),c4,c5,none,c7,none,c9,tL ((List.range h).map (pf (cP vs (hs h Ws.reverse [hand])) 0)),tL [],none]=
   ah (.nx [fA (dS vs Ws),fN hand,tN h,tL (mR h (Lk h Ws Ws.length)),c4,c5,none,gR,none,c9,tL ((List.range h).map (cP vs (hs h Ws.reverse [hand]))),tL [],none]):=by
 have nr:=qM (vs:=vs) w.n
 have hv:=w.hv
 have ek:=BN (f:=Lk h Ws Ws.length) hd
 obtain⟨Γ',g1,gR,g2⟩:=bo (g:=cS 7) (b:=gG) (ds:=(List.range h).map λ(i:Nat)=>PyData.int (i:Int)) (Γ:=[fA (dS vs Ws),fN hand,tN h,tL (mR h (Lk h Ws Ws.length)),c4,c5,none,c7,none,c9,tL ((List.range h).map (pf (cP vs (hs h Ws.reverse [hand])) 0)),tL [],none])
  (λi Γ=>∃c7:Slot,Γ=[fA (dS vs Ws),fN hand,tN h,tL (mR h (Lk h Ws Ws.length)),c4,c5,none,c7,none,c9,tL ((List.range h).map (pf (cP vs (hs h Ws.reverse [hand])) i)),tL [],none]) ⟨_,rfl⟩ (by
  rintro i d Γ hd' ⟨c7,rfl⟩
  obtain⟨rfl,hi⟩:=cy hd'
  refine⟨_,[fA (dS vs Ws),fN hand,tN h,tL (mR h (Lk h Ws Ws.length)),c4,c5,none,tN i,none,c9,tL ((List.range h).map (pf (cP vs (hs h Ws.reverse [hand])) (i+1))),tL [],none],rfl,.inl ?_,_,rfl⟩
  have gi:Cp (.tuple [.int (i:Int),.int 0]) (.dict (enc (Lk h Ws Ws.length hand)))=some (.bool (decide ((i,0)∈Lk h Ws Ws.length hand))):=EG _ (i,0)
  have n2:aq [PyData.int (i:Int),.int 0]=true:=rfl
  have hm:(i,0)∈Lk h Ws Ws.length hand↔i∈hs h Ws.reverse [hand]:=by rw[HN hh hd,List.drop_zero];exact⟨λz=>z.2,λz=>⟨Xu _,z⟩⟩
  have np:=MR (qL vs (hs h Ws.reverse [hand])) i
  have nl:aq ((List.range h).map (pf (cP vs (hs h Ws.reverse [hand])) i))=true:=aP _ np _
  have hix:Y.xq ((List.range h).map (pf (cP vs (hs h Ws.reverse [hand])) i)).length (i:Int)=some i:=BO (by rw[K4,X9];exact hi)
  rw[K4,X9] at hix
  have hk':i < vs.length:=by omega
  have ea:jE (vs.map PyData.int) (i:Int)=some (.int (vs.getD i 0)):=cW (by rw[Kj,KW,K5 hk'];rfl)
  by_cases hb:i∈hs h Ws.reverse [hand]
  ·have hb':=hm.mpr hb
   have hg:cP vs (hs h Ws.reverse [hand]) i= .int (vs.getD i 0):=J5 hb
   rw[←EL _ hi,hg]
   simp(disch:=omega) only[gG,rn,reduceIte,ek,gi,hb',ao n2,Wx,dZ (oy w),ao (c_ vs),ea,hix,nl,Xv]
  ·have hb':¬ (i,0)∈Lk h Ws Ws.length hand:=λz=>hb (hm.mp z)
   rw[←y9 _ (J6 hb)]
   simp(disch:=omega) only[gG,rn,reduceIte,ek,gi,hb',ao n2])
 rw[K4,X9,EM] at g2
 exact⟨gR,by rw[g1,g2]⟩
theorem MT {h b:Nat}{vs:List Int}{Ws:List (List Ju)}(w:uz h b vs Ws)(hh:h<=4){hand m:Nat}(hd:hand < h)(hm:m < Ws.length)(c0 c7 c9 c10 w_:Slot) :
  ∃gR:Slot,bj (cS 7) gH ((List.range h).map λ(i:Nat)=>PyData.int (i:Int)) [c0,fN hand,tN h,tL (mR h (Lk h Ws Ws.length)),tN m,tT Ws[m],none,c7,none,c9,c10,w_,tL ((List.range h).map (pf (cV h Ws[m] (hs h (Ws.drop (m+1)).reverse [hand])) 0))]=
   ah (.nx [c0,fN hand,tN h,tL (mR h (Lk h Ws Ws.length)),tN m,tT Ws[m],none,gR,none,c9,c10,w_,tL ((List.range h).map (cV h Ws[m] (hs h (Ws.drop (m+1)).reverse [hand])))]):=by
 have ek:=BN (f:=Lk h Ws Ws.length) hd
 have nW:=w.n _ (Xy hm)
 have lW:=w.l _ (Xy hm)
 have e1:((m:Int)+1)=((m+1:Nat):Int):=by omega
 generalize XN:Ws[m]=W at*
 obtain⟨Γ',g1,gR,g2⟩:=bo (g:=cS 7) (b:=gH) (ds:=(List.range h).map λ(i:Nat)=>PyData.int (i:Int)) (Γ:=[c0,fN hand,tN h,tL (mR h (Lk h Ws Ws.length)),tN m,tT W,none,c7,none,c9,c10,w_,tL ((List.range h).map (pf (cV h W (hs h (Ws.drop (m+1)).reverse [hand])) 0))])
  (λi Γ=>∃c7:Slot,Γ=[c0,fN hand,tN h,tL (mR h (Lk h Ws Ws.length)),tN m,tT W,none,c7,none,c9,c10,w_,tL ((List.range h).map (pf (cV h W (hs h (Ws.drop (m+1)).reverse [hand])) i))]) ⟨_,rfl⟩ (by
  rintro i d Γ hd' ⟨c7,rfl⟩
  obtain⟨rfl,hi⟩:=cy hd'
  refine⟨_,[c0,fN hand,tN h,tL (mR h (Lk h Ws Ws.length)),tN m,tT W,none,tN i,none,c9,c10,w_,tL ((List.range h).map (pf (cV h W (hs h (Ws.drop (m+1)).reverse [hand])) (i+1)))],rfl,.inl ?_,_,rfl⟩
  have gi:Cp (.tuple [.int (i:Int),.int ((m+1:Nat):Int)]) (.dict (enc (Lk h Ws Ws.length hand)))=some (.bool (decide ((i,m+1)∈Lk h Ws Ws.length hand))):=EG _ (i,m+1)
  have n2:aq [PyData.int (i:Int),.int ((m+1:Nat):Int)]=true:=rfl
  have hmm:(i,m+1)∈Lk h Ws Ws.length hand↔i∈hs h (Ws.drop (m+1)).reverse [hand]:=by rw[HN hh hd];exact⟨λz=>z.2,λz=>⟨by omega,z⟩⟩
  have nl:aq ((List.range h).map (pf (cV h W (hs h (Ws.drop (m+1)).reverse [hand])) i))=true:=aP _ (MR (mE h W _) i) _
  have hix:Y.xq h (i:Int)=some i:=BO hi
  have sn:=mC h i W hh lW
  have nS:aq ((bv h W i).map nat)=true:=aP _ (λ_=>rfl) _
  by_cases hb:i∈hs h (Ws.drop (m+1)).reverse [hand]
  ·have hb':=hmm.mpr hb
   have hg:cV h W (hs h (Ws.drop (m+1)).reverse [hand]) i= .tuple ((bv h W i).map nat):=J5 hb
   rw[←EL _ hi,hg]
   simp(disch:=omega) only[gH,rn,reduceIte,e1,ek,gi,hb',ao n2,ao nW,sn,ao nS,nS,hix,nl,Xv]
  ·have hb':¬ (i,m+1)∈Lk h Ws Ws.length hand:=λz=>hb (hmm.mp z)
   rw[←y9 _ (J6 hb)]
   simp(disch:=omega) only[gH,rn,reduceIte,e1,ek,gi,hb',ao n2])
 rw[K4,X9,EM] at g2
 exact⟨gR,by rw[g1,g2]⟩
theorem JR {h b:Nat}{vs:List Int}{Ws:List (List Ju)}(w:uz h b vs Ws)(hh:h<=4){hand:Nat}(hd:hand < h)(c0 c4 c5 c7 c9 c10:Slot) :
  ∃o_ qX gR GJ:Slot,bj (mI [4,5]) i_ (gn 0 (Ws.map PyData.tuple)) [c0,fN hand,tN h,tL (mR h (Lk h Ws Ws.length)),c4,c5,none,c7,none,c9,c10,tL [],none]=
   ah (.nx [c0,fN hand,tN h,tL (mR h (Lk h Ws Ws.length)),o_,qX,none,gR,none,c9,c10,tL (rows h Ws.reverse [hand]).reverse,GJ]):=by
 have hr:=w.hr
 obtain⟨Γ',g1,o_,qX,gR,GJ,g2⟩:=bo (g:=mI [4,5]) (b:=i_) (ds:=gn 0 (Ws.map PyData.tuple)) (Γ:=[c0,fN hand,tN h,tL (mR h (Lk h Ws Ws.length)),c4,c5,none,c7,none,c9,c10,tL [],none])
  (λi Γ=>∃c4 c5 c7 c12:Slot,Γ=[c0,fN hand,tN h,tL (mR h (Lk h Ws Ws.length)),c4,c5,none,c7,none,c9,c10,tL ((rows h Ws.reverse [hand]).reverse.take i),c12]) ⟨_,_,_,_,rfl⟩ (by
  rintro i d Γ hd' ⟨c4,c5,c7,c12,rfl⟩
  obtain⟨hi,rfl⟩:=EK hd'
  have nW:=w.n _ (Xy hi)
  obtain⟨gR,e⟩:=MT w hh hd hi c0 c7 c9 c10 (tL ((rows h Ws.reverse [hand]).reverse.take i))
  have er:=MN (h:=h) (hand:=hand) hi
  have et:(rows h Ws.reverse [hand]).reverse.take (i+1)=(rows h Ws.reverse [hand]).reverse.take i++[.tuple ((List.range h).map (cV h Ws[i] (hs h (Ws.drop (i+1)).reverse [hand])))]:=by rw[UY,er];rfl
  refine⟨_,[c0,fN hand,tN h,tL (mR h (Lk h Ws Ws.length)),tN i,tT Ws[i],none,gR,none,c9,c10,tL ((rows h Ws.reverse [hand]).reverse.take (i+1)),tL ((List.range h).map (cV h Ws[i] (hs h (Ws.drop (i+1)).reverse [hand])))],PM _ _ _ _ _ _ _ _ _ _ _ _ _ i Ws[i] nW,.inl ?_,_,_,_,_,rfl⟩
  rw[et]
  have hsz:((rows h Ws.reverse [hand]).reverse.take i).length < sizeLine:=X0 (show _<=5 by rw[Uk];omega) (by decide)
  generalize Ws[i]=W at*
  have rp:=y_ h hh (cV h W (hs h (Ws.drop (i+1)).reverse [hand]))
  have nR:aq ((List.range h).map (cV h W (hs h (Ws.drop (i+1)).reverse [hand])))=true:=aP _ (mE h W _) _
  simp(disch:=omega) only[i_,rn,reduceIte,Iq,isNew,rp,K0,e,dh nR,ao nR,hsz])
 rw[L2.eX,K4,List.take_of_length_le (by rw[XZ,qK,XZ];exact Ku _)] at g2
 exact⟨o_,qX,gR,GJ,by rw[g1,g2]⟩
theorem GK {h b:Nat}{vs:List Int}{Ws:List (List Ju)}(w:uz h b vs Ws)(hh:h<=4){hand:Nat}(hd:hand < h):cK [dS vs Ws,.int (hand:Int)]=ah (true,cQ vs Ws hand):=by
 have hv:=w.hv
 have hr:=w.hr
 have nr:=oy w
 have nw:=BK w
 have hml:(vs.map PyData.int).length=h:=by rw[K4];exact hv
 have hc:=jX (fe:=i6) (cap:=[]) ((List.range h).map λ(i:Nat)=>PyData.int (i:Int))
  (λd=>match d with | .int k=>(.fr [],.dict (enc [(k.toNat,0)])) | _=>(.fr [],.none)) (λd hd=>by
   obtain⟨k,hk,rfl⟩:=Ky.mp hd
   rw[MO];simp only[K0])
 have e1:(((List.range h).map λ(i:Nat)=>PyData.int (i:Int)).map λd=>match d with | .int k=>(Kd.fr [],PyData.dict (enc [(k.toNat,0)])) | _=>(Kd.fr [],PyData.none))=(List.range h).map λk=>(Kd.fr [],PyData.dict (enc (Lk h Ws 0 k))):=by
  rw[X7];refine U5 λk _=> ?_;simp only[Function.comp,K0,Lk]
 rw[e1] at hc
 have k1:=gM (List.range h) λk=>PyData.dict (enc (Lk h Ws 0 k))
 have e2:((List.range h).map λk=>(Kd.fr [],PyData.dict (enc (Lk h Ws 0 k)))).map Prod.snd=mR h (Lk h Ws 0):=by rw[X7];rfl
 have hle:h<=100000:=by omega
 obtain⟨c4,c5,c7,c9,l1⟩:=MQ w hh (fA (dS vs Ws)) (fN hand)
 have rp:=y_ h hh (cP vs (hs h Ws.reverse [hand]))
 obtain⟨gR,l2⟩:=JQ w hh hd c4 c5 c7 c9
 obtain⟨d4,d5,d7,PN,l3⟩:=JR w hh hd (fA (dS vs Ws)) c4 c5 gR c9 (tL ((List.range h).map (cP vs (hs h Ws.reverse [hand]))))
 have n1:aq ((List.range h).map (cP vs (hs h Ws.reverse [hand])))=true:=aP _ (qL _ _) _
 have n2:aq (rows h Ws.reverse [hand]).reverse=true:=a6.mpr λx hx=>a6.mp (qJ (h:=h) (R:=Ws.reverse) (H:=[hand])) x (Uw.mp hx)
 have n4:aq [PyData.int (hand:Int),.tuple ((List.range h).map (cP vs (hs h Ws.reverse [hand]))),.tuple (rows h Ws.reverse [hand]).reverse]=true:=by simp only[aq,ql,eG,n1,n2,Xv]
 simp(disch:=omega) only[cK,ny,cI,zx,NV,Iq,isNew,rn,reduceIte,Wx,Xm,dZ nr,ao nw,ao (c_ vs),hv,hml,K0,hc,k1,e2,hle,l1,rp,l2,l3,dh n1,dh n2,ao n1,ao n2,ao n4,cQ]
theorem JS (i:Int):bt [.int i]=ah (true,.bool true):=by
 simp(disch:=omega) only[bt,mj,rn,h_,lR,bX,reduceCtorEq,reduceIte,String.reduceBEq]
mutual
theorem uA:∀(n:Nat) (d:Ju),lay n d=true->PyData.eqv d d=true
 | _,.none,_=>by simp[PyData.eqv]
 | _,.bool _,_=>by simp[PyData.eqv]
 | _,.int _,_=>by simp[PyData.eqv]
 | _,.str _,_=>by simp[PyData.eqv]
 | 0,.list xs,h=>by simp[lay] at h
 | 0,.tuple xs,h=>by simp[lay] at h
 | n+1,.list xs,h=>by rw[lay] at h;simp only[PyData.eqv];exact xa n xs h
 | n+1,.tuple xs,h=>by rw[lay] at h;simp only[PyData.eqv];exact xa n xs h
 | 0,.dict _,h=>by simp[lay] at h
 | n+1,.dict _,h=>by simp[lay] at h
theorem xa:∀(n:Nat) (ds:List Ju),lays n ds=true->PyData.eqvAll ds ds=true
 | _,[],_=>by simp[PyData.eqvAll]
 | n,d :: ds,h=>by
  rw[lays,KQ] at h
  simp only[PyData.eqvAll,uA n d h.1,xa n ds h.2,Xv]
end
theorem EN {n:Nat}{xs ys:List Ju}(h1:lays n xs=true)(h2:lays n ys=true):lays n (xs++ys)=true:=jk.mpr λx hx=>by
 rcases Kk.mp hx with h | h
 ·exact jk.mp h1 x h
 ·exact jk.mp h2 x h
structure Good (xs:List Ju):Prop where
 u:∀(d:Nat) (x:Ju),xs[d]? =some x->xx x xs=some d
 n:aq xs=true
 l:∀n,lays (n+3) xs=true
theorem za {x:Ju}:∀{xs:List Ju} {d:Nat} (zs:List Ju),xx x xs=some d->xx x (xs++zs)=some d
 | [],d,zs,h=>by cases h
 | y :: ys,d,zs,h=>by
  rw[U8,xx]
  rw[xx] at h
  by_cases hy:PyData.eqv y x=true
  ·rw[J5 hy] at h⊢;exact h
  ·rw[J6 hy] at h⊢
   cases e:xx x ys with
   | none=>rw[e] at h;cases h
   | some k=>rw[e] at h;rw[za zs e];exact h
theorem xb {x:Ju}(hx:PyData.eqv x x=true):∀{xs:List Ju},dG xs x=false->xx x (xs++[x])=some xs.length
 | [],_=>by simp[xx,hx]
 | y :: ys,h=>by
  rw[dG,Y1,Bool.or_eq_false_iff] at h
  rw[U8,xx,J6 (by rw[h.1];exact K3),xb hx h.2];rfl
theorem Good.snoc {xs:List Ju}{x:Ju}(g:Good xs)(hn:bL x=true)(hl:∀n,lay (n+3) x=true)(hx:dG xs x=false):Good (xs++[x]) where
 u:=λd y h=>by
  by_cases hd:d < xs.length
  ·rw[XQ hd] at h
   exact za _ (g.u d y h)
  ·rw[Uq (by omega)] at h
   have h0:d - xs.length=0:=by
    have:=(X5.mp h).1
    simp at this;omega
   rw[h0] at h
   have:x=y:=by simpa using h
   subst this
   rw[xb (uA _ _ (hl 0)) hx]
   congr 1;omega
 n:=by rw[ji,g.n,aq,aq,hn];rfl
 l:=λn=>EN (g.l n) (by rw[lays,lays,hl n];rfl)
theorem xc:Good []:=⟨λd x h=>by simp at h,rfl,λ_=>rfl⟩
theorem Good.bL {xs:List Ju}{x:Ju}(g:Good xs)(h:x∈xs):bL x=true:=a6.mp g.n x h
theorem Good.lay {xs:List Ju}{x:Ju}(g:Good xs)(h:x∈xs)(n:Nat):Y.lay (n+3) x=true:=jk.mp (g.l n) x h
theorem Good.dG {xs:List Ju}{x:Ju}(g:Good xs)(h:x∈xs):Y.dG xs x=true:=List.any_eq_true.mpr ⟨x,h,uA _ _ (g.lay h 0)⟩
theorem HP (xs:List Ju)(n:Nat)(hx:xs.length<=1000)(hn:n<=100):cL [.list xs,.int (n:Int)]=ah (true,.int ((xs.length^n:Nat):Int)):=by
 obtain⟨Γ',h1,c3,h2⟩:=bo (g:=cS 3) (b:=kY) (ds:=(List.range n).map λ(i:Nat)=>PyData.int (i:Int)) (Γ:=[fL xs,fN n,tI 1,none])
  (λi Γ=>∃c3:Option (Bool×Ju),Γ=[fL xs,fN n,tI ((xs.length^i:Nat):Int),c3]) ⟨none,by simp⟩ (by
  rintro i d Γ hd ⟨c3,rfl⟩
  obtain⟨rfl,hi⟩:=cy hd
  refine⟨_,[fL xs,fN n,tI ((xs.length^(i+1):Nat):Int),tN i],rfl,.inl ?_,_,rfl⟩
  simp(disch:=omega) only[kY,rn,reduceIte,Nat.pow_succ,Int.natCast_mul])
 simp(disch:=omega) only[cL,nB,rn,reduceIte,h1,h2,K0]
def dig (L n:Nat):Nat->List Nat
 | 0=> []
 | k+1=>dig L n k++[n / L^k % L]
theorem HQ (L n k:Nat):(dig L n k).length=k:=by
 induction k with
 | zero=>rfl
 | succ k ih=>rw[dig,Kx,ih];rfl
theorem MU {L n k d:Nat}(hL:0 < L)(h:d∈dig L n k):d < L:=by
 induction k with
 | zero=>cases h
 | succ k ih=>
  rw[dig] at h
  rcases Kk.mp h with h | h
  ·exact ih h
  ·rw[K7.mp h];exact Nat.mod_lt _ hL
def oY (xs:List Ju)(n k:Nat):List Ju:=(dig xs.length n k).reverse.map λd=>xs.getD d .none
theorem getD_at {xs:List Ju}{d:Nat}(h:d < xs.length):xs[d]? =some (xs.getD d .none):=by rw[KW,K5 h];rfl
theorem getD_mem {xs:List Ju}{d:Nat}(h:d < xs.length):xs.getD d .none∈xs:=Y0 (getD_at h)
theorem MV (xs:List Ju)(n k:Nat):(oY xs n k).length=k:=by unfold oY;rw[K4,XZ,HQ]
theorem EO {xs:List Ju}{n k:Nat}{x:Ju}(hv:1<=xs.length)(h:x∈oY xs n k):x∈xs:=by
 obtain⟨d,hd,rfl⟩:=Ky.mp h
 exact getD_mem (MU hv (Uw.mp hd))
theorem MW (xs:List Ju)(n k:Nat)(g:Good xs)(hv:1<=xs.length)(Pz:xs.length<=1000)(hk:k<=100):ip [.list xs,.int (k:Int),.int (n:Int)]=ah (true,.tuple (oY xs n k)):=by
 obtain⟨Γ',h1,c5,h2⟩:=bo (g:=cS 5) (b:=pM) (ds:=(List.range k).map λ(i:Nat)=>PyData.int (i:Int)) (Γ:=[fL xs,fN k,fN n,tL [],tN n,none])
  (λi Γ=>∃c5:Option (Bool×Ju),Γ=[fL xs,fN k,fN n,tL ((dig xs.length n i).map λd=>xs.getD d .none),tI ((n / xs.length^i:Nat):Int),c5]) ⟨none,by simp[dig]⟩ (by
  rintro i d Γ hd ⟨c5,rfl⟩
  obtain⟨rfl,hi⟩:=cy hd
  refine⟨_,[fL xs,fN k,fN n,tL ((dig xs.length n (i+1)).map λd=>xs.getD d .none),tI ((n / xs.length^(i+1):Nat):Int),tN i],rfl,.inl ?_,_,rfl⟩
  have hlt:n / xs.length^i % xs.length < xs.length:=Nat.mod_lt _ hv
  have e1:((n / xs.length^i:Nat):Int) % (xs.length:Int)=((n / xs.length^i % xs.length:Nat):Int):=(Int.natCast_emod _ _).symm
  have e2:jE xs ((n / xs.length^i % xs.length:Nat):Int)=some (xs.getD (n / xs.length^i % xs.length) .none):=cW (getD_at hlt)
  have e3:((n / xs.length^i:Nat):Int) / (xs.length:Int)=((n / xs.length^(i+1):Nat):Int):=by
   rw[Nat.pow_succ,←Nat.div_div_eq_div_mul];exact(Int.natCast_ediv _ _).symm
  have hsz:(dig xs.length n i).length < sizeLine:=X0 (show _<=100 by rw[HQ];omega) (by decide)
  have e4:bL (xs.getD (n / xs.length^i % xs.length) .none)=true:=g.bL (getD_mem hlt)
  simp(disch:=omega) only[pM,rn,reduceIte,e1,e2,e3,hsz,dig,X6,dZ e4])
 have hn:aq ((dig xs.length n k).map λd=>xs.getD d .none)=true:=a6.mpr λx hx=>by
  obtain⟨d,hd,rfl⟩:=Ky.mp hx
  exact g.bL (getD_mem (MU hv hd))
 rw[K4,X9] at h2
 simp(disch:=omega) only[ip,vB,rn,reduceIte,h1,h2,K0,vq hn,oY,←List.map_reverse]
theorem MX (ws ss:List Ju)(k N:Nat)(gw:Good ws)(gs:Good ss)(hv:1<=ws.length)(Pz:ws.length<=8)(hk:k<=5)(hN:N < ss.length*ws.length^k) :
  iq [.list ws,.int (k:Int),.list ss,.int (N:Int)]=ah (true,.tuple [ss.getD (N / ws.length^k) .none,.tuple (oY ws (N % ws.length^k) k)]):=by
 have hp:0 < ws.length^k:=Nat.pow_pos hv
 have hp2:ws.length^k<=32768:=Kq (Nat.pow_le_pow_left Pz k) (Kq (Nat.pow_le_pow_right (by decide) hk) (by decide))
 have hq:N / ws.length^k < ss.length:=Nat.div_lt_of_lt_mul (by rw[Yk];exact hN)
 have hm:=HP ws k (by omega) (by omega)
 have hr:=MW ws (N % ws.length^k) k gw hv (by omega) (by omega)
 have e1:((N:Nat):Int) / ((ws.length^k:Nat):Int)=((N / ws.length^k:Nat):Int):=(Int.natCast_ediv _ _).symm
 have e2:((N:Nat):Int) % ((ws.length^k:Nat):Int)=((N % ws.length^k:Nat):Int):=(Int.natCast_emod _ _).symm
 have e3:=cW (getD_at hq)
 have ns:bL (ss.getD (N / ws.length^k) .none)=true:=gs.bL (getD_mem hq)
 have nr:aq (oY ws (N % ws.length^k) k)=true:=a6.mpr λx hx=>gw.bL (EO hv hx)
 have hT:aq [ss.getD (N / ws.length^k) .none,.tuple (oY ws (N % ws.length^k) k)]=true:=by simp only[aq,ns,eG,nr,Xv]
 generalize ws.length^k=L at*
 simp(disch:=omega) only[iq,vC,rn,reduceIte,hm,hr,e1,e2,e3,dZ ns,ao nr,ao hT]
theorem OY (ws ss:List Ju)(k:Nat)(Pz:ws.length<=8)(hs:ss.length<=81)(hk:k<=5) :
  cM [.list ws,.int (k:Int),.list ss]=ah (true,.int ((ss.length*ws.length^k:Nat):Int)):=by
 have hm:=HP ws k (by omega) (by omega)
 simp(disch:=omega) only[cM,nC,rn,reduceIte,hm,Int.natCast_mul]
theorem MY {xs ys:List Ju}(h1:aq xs=true)(h2:aq ys=true)(h3:xs.length+ys.length<=sizeLine):ia (.tuple xs) (.tuple ys)=some (.tuple (xs++ys)):=by
 simp only[ia,h1,h2,Xv,UZ,J4 h3,if_true]
theorem ER (L m:Nat):∀k:Nat,dig L m (k+1)=(m % L) :: dig L (m / L) k
 | 0=>by simp[dig]
 | k+1=>by
  rw[dig,ER L m k,dig,U8,Nat.pow_succ,Yk (L^k) L,←Nat.div_div_eq_div_mul]
theorem JT (xs:List Ju)(n d k:Nat)(hd:d < xs.length):oY xs (n*xs.length+d) (k+1)=oY xs n k++[xs.getD d .none]:=by
 have e1:(n*xs.length+d) % xs.length=d:=by rw[Yk,Nat.mul_add_mod,Nat.mod_eq_of_lt hd]
 have e2:(n*xs.length+d) / xs.length=n:=by rw[Yk,Nat.mul_add_div (by omega),Nat.div_eq_of_lt hd,Nat.add_zero]
 unfold oY
 rw[ER,e1,e2,Y3,X6]
 rfl
theorem zb (a b:Nat):List.range (a*b)=(List.range a).flatMap λn=>(List.range b).map λd=>n*b+d:=by
 induction a with
 | zero=>simp
 | succ a ih=>
  rw[UX,List.range_add,ih,Y8,List.flatMap_append]
  simp
theorem map_getD (xs:List Ju):(List.range xs.length).map (λd=>xs.getD d .none)=xs:=by
 refine Yv (by simp) λi h1 h2=> ?_
 simp[KW,K5 h2]
theorem RI {α:Type}(xs:List Ju)(f:Ju->α):xs.map f=(List.range xs.length).map λd=>f (xs.getD d .none):=(congrArg (List.map f) (map_getD xs)).symm.trans (X7 ..)
theorem OZ {α:Type}(xs:List Ju)(f:Ju->List α):xs.flatMap f=(List.range xs.length).flatMap λd=>f (xs.getD d .none):=(congrArg (List.flatMap f) (map_getD xs)).symm.trans (List.flatMap_map ..)
def rws (ws:List Ju):Nat->List (List Ju)
 | 0=> [[]]
 | k+1=>(rws ws k).flatMap λr=>ws.map λw=>r++[w]
theorem GL (ws:List Ju):∀k:Nat,rws ws k=(List.range (ws.length^k)).map λn=>oY ws n k
 | 0=>by simp[rws,oY,dig]
 | k+1=>by
  rw[rws,GL ws k,Nat.pow_succ,zb,List.map_flatMap,List.flatMap_map]
  refine congrArg (λf=>List.flatMap f (List.range (ws.length^k))) (funext λn=> ?_)
  rw[X7,RI ws]
  refine U5 λd hd=> ?_
  exact(JT ws n d k (X2.mp hd)).symm
def BP (ws ss:List Ju)(k N:Nat):Ju:=.tuple [ss.getD (N / ws.length^k) .none,.tuple (oY ws (N % ws.length^k) k)]
def xf (ws ss:List Ju)(k:Nat):List Ju:=(List.range (ss.length*ws.length^k)).map (BP ws ss k)
theorem O0 (ws ss:List Ju)(k:Nat):(ss.flatMap λs=>(rws ws k).map λr=>PyData.tuple [s,.tuple r])=xf ws ss k:=by
 unfold xf
 rw[zb,List.map_flatMap]
 rw[OZ ss]
 refine congrArg (λf=>List.flatMap f (List.range ss.length)) (funext λm=> ?_)
 rw[GL,X7,X7]
 refine U5 λn hn=> ?_
 have hn':n < ws.length^k:=X2.mp hn
 show PyData.tuple [ss.getD m .none,.tuple (oY ws n k)]=BP ws ss k (m*ws.length^k+n)
 unfold BP
 rw[Yk,Nat.mul_add_div (by omega),Nat.div_eq_of_lt hn',Nat.add_zero,Nat.mul_add_mod,Nat.mod_eq_of_lt hn']
theorem O1 (ws:List Ju)(k:Nat):(rws ws k).length=ws.length^k:=by rw[GL];simp
theorem BQ {ws:List Ju}:∀{k:Nat} {r:List Ju},r∈rws ws k->r.length=k/\∀x∈r,x∈ws
 | 0,r,h=>by rw[K7.mp h];exact⟨rfl,λx hx=>by cases hx⟩
 | k+1,r,h=>by
  obtain⟨r',h1,h2⟩:=U1.mp h
  obtain⟨w,h3,rfl⟩:=Ky.mp h2
  obtain⟨h4,h5⟩:=BQ h1
  refine⟨by rw[Kx,h4];rfl,λx hx=> ?_⟩
  rcases Kk.mp hx with hx | hx
  ·exact h5 x hx
  ·rw[K7.mp hx];exact h3
theorem ES {ws:List Ju}(g:Good ws){k:Nat}{r:List Ju}(h:r∈rws ws k):aq r=true:=a6.mpr λx hx=>g.bL ((BQ h).2 x hx)
def tups (l:List (List Ju)):List Ju:=l.map PyData.tuple
theorem ET (a b:List (List Ju)):tups (a++b)=tups a++tups b:=by simp[tups]
def pairD (s:Ju)(l:List (List Ju)):List Ju:=l.map λr=>PyData.tuple [s,.tuple r]
theorem RJ (ws ss:List Ju)(k:Nat)(g:Good ws)(gs:Good ss)(hw1:1<=ws.length)(hw:ws.length<=8)(hk:k<=5)(hs:ss.length<=81)(hm:ss.length*ws.length^k<=3000) :
  eI [.list ws,.int (k:Int),.list ss]=ah (true,.list (xf ws ss k)):=by
 have hr:cM [.list ws,.int (k:Int),.list ss]=ah (true,.int ((ss.length*ws.length^k:Nat):Int)):=OY ws ss k hw hs hk
 have hgt:decide ((3000:Int) < ((ss.length*ws.length^k:Nat):Int))=false:=J3 (by omega)
 have hc:fE gm jN [fL ws,fN k,fL ss] ((List.range (ss.length*ws.length^k)).map λ(i:Nat)=>PyData.int (i:Int))=some (((List.range (ss.length*ws.length^k)).map λ(i:Nat)=>PyData.int (i:Int)).map λd=>(Kd.fr [],match d with | .int i=>BP ws ss k i.toNat | _=> .none)):=jX _ _ λd hd=>by
  obtain⟨N,hN,rfl⟩:=Ky.mp hd
  have e:=MX ws ss k N g gs hw1 hw hk (X2.mp hN)
  simp(disch:=omega) only[jN,rn,reduceIte,e,C3 (qm _),K0,BP]
  unfold eR;split <;> rfl
 rw[X7] at hc
 have k1:=gM (List.range (ss.length*ws.length^k)) (BP ws ss k)
 have m1:((List.range (ss.length*ws.length^k)).map λa=>(Kd.fr [],BP ws ss k a)).map Prod.snd=xf ws ss k:=by rw[X7];rfl
 have hc':fE gm jN [fL ws,fN k,fL ss] ((List.range (ss.length*ws.length^k)).map λ(i:Nat)=>PyData.int (i:Int))=some ((List.range (ss.length*ws.length^k)).map λa=>(Kd.fr [],BP ws ss k a)):=hc
 have hl:ss.length*ws.length^k<=100000:=by omega
 generalize hM:ss.length*ws.length^k=Mm at*
 simp(disch:=omega) only[eI,pN,cI,rn,reduceIte,hr,hgt,K0,hc',k1,m1,hl,C3 (qm _)]
end K32
namespace Y
open PySem
section
variable {a b:SF}{t:TF}{Γ Γ':bD}{o:Bool}{d:Ju}
theorem ax (h:a Γ=ah (.nx Γ')):au a b Γ=b Γ':=by unfold au;rw[h];rfl
theorem O2 (h:a Γ=ah (.rt o d)):au a b Γ=ah (.rt o d):=by unfold au;rw[h];rfl
theorem MZ (h:t Γ=ah true):jm t a b Γ=a Γ:=by unfold jm;rw[h];rfl
theorem xg (h:t Γ=ah false):jm t a b Γ=b Γ:=by unfold jm;rw[h];rfl
theorem BR (Γ:bD):cA Γ=ah (.nx Γ):=rfl
theorem iG {n:Nat}{ds:List Ju}(h:a (eD n ds)=ah (.rt o d)):eS n a ds=ah (o,d):=by unfold eS;rw[h];rfl
theorem oA {n:Nat}(h:t Γ=ah true)(h2:b Γ=ah (.nx Γ')):gu (n+1) t b Γ=gu n t b Γ':=by rw[gu,h,ay,J5 rfl,h2,ay]
theorem qQ {n:Nat}(h:t Γ=ah false):gu (n+1) t b Γ=ah (.nx Γ):=by rw[gu,h,ay,J6 K3]
end
end Y
namespace K32
open PySem Y
def hU (ns:List Int)(k:Int):Int:=if k < ns.length then (ns[k.toNat]?).getD 0 else 0
theorem kM (ns:List Int)(k:Int)(hk:0<=k):az [.list (ns.map PyData.int),.int k]=ah (true,.int (hU ns k)):=by
 by_cases h:k < ns.length
 ·have e:(ns.map PyData.int)[k.toNat]? =some (.int (hU ns k)):=by
   rw[Kj,K5 (by omega),hU,J5 h,K5 (by omega)];rfl
  simp(disch:=omega) only[az,ik,rn,reduceIte,h,OE hk e]
 ·have e:hU ns k=0:=J6 h
  simp(disch:=omega) only[az,ik,rn,reduceIte,h,e]
theorem GN (n k:Int)(h0:0<=k)(h1:k < 1000):∃z:Nat,z < 2147483648/\bJ [.int n,.int k]=ah (true,.int (z:Int)):=by
 by_cases hn:1000000000000<=n
 ·have b1:=UK k (show(61:Int)≠0 by decide)
  have b2:=Ux k (show(0:Int) < 61 by decide)
  obtain⟨Γ',g1,z,c2,g2⟩:=bo (g:=cS 2) (b:=me) (ds:=(List.range (k % 61).toNat).map λ(i:Nat)=>PyData.int (i:Int)) (Γ:=[tI (n / 1000000000000 - 1),fI k,none,none])
   (λi Γ=>∃(z:Int) (c2:Option (Bool×Ju)),Γ=[tI z,fI k,c2,none]) ⟨_,none,rfl⟩ (by
   rintro i d Γ hd ⟨z,c2,rfl⟩
   obtain⟨rfl,hi⟩:=cy hd
   refine⟨_,[tI (z / 2147483648),fI k,tN i,none],rfl,.inl ?_,_,_,rfl⟩
   simp(disch:=omega) only[me,rn,reduceIte])
  refine⟨(z % 2147483648).toNat,by omega,?_⟩
  have ez:((z % 2147483648).toNat:Int)=z % 2147483648:=by omega
  rw[ez]
  simp(disch:=omega) only[bJ,mf,rn,reduceIte,Hr,Int.reduceToNat,Int.reducePow,hn,g1,g2]
 ·have b1:=UK n (show(1000003:Int)≠0 by decide)
  have b2:=Ux n (show(0:Int) < 1000003 by decide)
  have b3:=UK ((n % 1000003+k*k*7919+k)*48271) (show(2147483629:Int)≠0 by decide)
  have b4:=Ux ((n % 1000003+k*k*7919+k)*48271) (show(0:Int) < 2147483629 by decide)
  generalize ha:(n % 1000003+k*k*7919+k)*48271 % 2147483629=a at b3 b4
  have b5:=UK (a*a) (show(2147483587:Int)≠0 by decide)
  have b6:=Ux (a*a) (show(0:Int) < 2147483587 by decide)
  generalize hb:a*a % 2147483587=b at b5 b6
  have b7:=UK (b*(b+2)) (show(2147483579:Int)≠0 by decide)
  have b8:=Ux (b*(b+2)) (show(0:Int) < 2147483579 by decide)
  generalize hc:b*(b+2) % 2147483579=c at b7 b8
  refine⟨(c / 7).toNat,by omega,?_⟩
  have ez:((c / 7).toNat:Int)=c / 7:=by omega
  rw[ez]
  simp(disch:=omega) only[bJ,mf,rn,reduceIte,Hr,Int.reduceToNat,Int.reducePow,hn,ha,hb,hc]
theorem JU (ns:List Int):∃a b c:Int,bB [.list (ns.map PyData.int)]=ah (true,.list [.int a,.int b,.int c]):=by
 by_cases h:hU ns 7 % 2=1
 ·have hb:(hU ns 7 % 2==1)=true:=by rw[h];rfl
  refine⟨hU ns 5 % 10^60 / 10,(-1 - hU ns 6 % 10^59) / 10 - 1,7+hU ns 5 % 10^60 / 10,?_⟩
  simp(disch:=omega) only[bB,iY,rn,reduceIte,Int.reduceToNat,Int.reducePow,kM,hb]
 ·have hb:(hU ns 7 % 2==1)=false:=by simpa using h
  refine⟨hU ns 5 % 10^60 / 10,(hU ns 5 % 10^60+1+hU ns 6 % 5) / 10 - 1,7+hU ns 5 % 10^60 / 10,?_⟩
  simp(disch:=omega) only[bB,iY,rn,reduceIte,Int.reduceToNat,Int.reducePow,kM,hb]
theorem EU {fe:EF}{cap:bD}:∀(ds:List Ju),(∀d∈ds,∃z:Int,fe (fA d :: cap)=ah (.fr [],.int z))->∃zs:List Int,zs.length=ds.length/\fE gm fe cap ds=some (zs.map λz=>(Kd.fr [],PyData.int z))
 | [],_=>⟨[],rfl,rfl⟩
 | d :: ds,h=>by
  obtain⟨z,hz⟩:=h d K8
  obtain⟨zs,hl,hc⟩:=EU ds λx hx=>h x (K9 _ hx)
  refine⟨z :: zs,by simp[hl],?_⟩
  simp only[fE,gm,ah] at hz⊢
  rw[hz,hc];rfl
def prs (ls:List (Int×Int)):List Ju:=ls.map λp=> .tuple [.int p.1,.int p.2]
theorem M0 (h:Nat)(h2:2<=h)(h4:h<=4):∃ls:List (Int×Int),di [.int (h:Int)]=ah (true,.list (prs ls))/\2<=ls.length/\ls.length<=12:=by
 have hc:h=2∨h=3∨h=4:=by omega
 rcases hc with rfl | rfl | rfl
 ·exact⟨[(0,1),(1,0)],by rfl,by decide,by decide⟩
 ·exact⟨[(0,1),(0,2),(1,0),(1,2),(2,0),(2,1)],by rfl,by decide,by decide⟩
 ·exact⟨[(0,1),(0,2),(0,3),(1,0),(1,2),(1,3),(2,0),(2,1),(2,3),(3,0),(3,1),(3,2)],by rfl,by decide,by decide⟩
def JV (W:List Ju):Prop:=∀x∈W,∃i j:Int,x= .tuple [.int i,.int j]
theorem JV.n {W:List Ju}(h:JV W):aq W=true:=a6.mpr λx hx=>by
 obtain⟨i,j,rfl⟩:=h x hx;rfl
theorem JV.l {W:List Ju}(h:JV W)(n:Nat):lays (n+2) W=true:=jk.mpr λx hx=>by
 obtain⟨i,j,rfl⟩:=h x hx;rfl
theorem JV.snoc {W:List Ju}{x:Ju}(h:JV W)(hx:∃i j:Int,x= .tuple [.int i,.int j]):JV (W++[x]):=λy hy=>by
 rcases Kk.mp hy with hy | hy
 ·exact h y hy
 ·rw[K7.mp hy];exact hx
theorem O3 (ls:List (Int×Int)):JV (prs ls):=λx hx=>by
 obtain⟨p,_,rfl⟩:=Ky.mp hx;exact⟨_,_,rfl⟩
theorem GO (z:Int)(h:Nat)(h2:2<=h)(h4:h<=4):∃W:List Ju,JV W/\W.length<=12/\bA [.int z,.int (h:Int)]=ah (true,.tuple W):=by
 obtain⟨ls,hp,l1,l2⟩:=M0 h h2 h4
 obtain⟨Γ',g1,W,y,o,c3,g2,g3,g4⟩:=bo (g:=cS 3) (b:=f6) (ds:=prs ls) (Γ:=[fI z,fN h,tL [],none])
  (λi Γ=>∃(W:List Ju) (y:Int) (o:Bool) (c3:Option (Bool×Ju)),Γ=[some (o,.int y),fN h,tL W,c3]/\JV W/\W.length<=i) ⟨[],z,false,none,rfl,(λx hx=>by cases hx),Ku _⟩ (by
  rintro i d Γ hd ⟨W,y,o,c3,rfl,hW,hl⟩
  have hi:i < ls.length:=by have:=(X5.mp hd).1;simpa [prs] using this
  obtain⟨a,b,rfl⟩:=O3 ls d (Y0 hd)
  have hsz:W.length < sizeLine:=X0 (show _<=12 by omega) (by decide)
  have nT:aq [PyData.int a,.int b]=true:=rfl
  cases hb:(y % 3==0) with
  | true=>
   refine⟨_,[tI (y / 3),fN h,tL (W++[.tuple [.int a,.int b]]),tT [.int a,.int b]],by rw[ao nT];rfl,.inl ?_,_,_,_,_,rfl,hW.snoc ⟨a,b,rfl⟩,by rw[Kx,X8];omega⟩
   simp(disch:=omega) only[f6,rn,reduceIte,hb,ao nT,hsz]
  | false=>
   refine⟨_,[tI (y / 3),fN h,tL W,tT [.int a,.int b]],by rw[ao nT];rfl,.inl ?_,_,_,_,_,rfl,hW,by omega⟩
   simp(disch:=omega) only[f6,rn,reduceIte,hb,ao nT,hsz])
 have gl:(prs ls).length=ls.length:=K4 _
 refine⟨W,g3,by omega,?_⟩
 simp(disch:=omega) only[bA,j8,rn,reduceIte,hp,g1,g2,dh g3.n,ao g3.n]
abbrev Sl:=Option (Bool×Ju)
def JW (x:Ju):Prop:=∃W:List Ju,x= .tuple W/\JV W/\W.length<=12
theorem JW.bL {x:Ju}(h:JW x):bL x=true:=by
 obtain⟨W,rfl,p,_⟩:=h
 exact p.n
theorem JW.lay {x:Ju}(h:JW x)(n:Nat):lay (n+3) x=true:=by
 obtain⟨W,rfl,p,_⟩:=h
 rw[Y.lay];exact p.l n
theorem M1 {x:Ju}{ws:List Ju}(hx:lay 60 x=true)(hw:lays 60 ws=true):h9 x (.list ws)=some (.bool (!dG ws x)):=C4 hx hw
def r5:SF:=aC 5 (aG bJ [(aG az [(eV 0),(bz ia (eC (.int 2)) (eV 4))]),(bz ia (eC (.int 20)) (eV 4))])
def r6:SF:=aC 6 (aG bA [(eV 5),(eV 1)])
def rT:TF:=tE (bz Ci (bz iO (bz jl (eV 5) (eC (.int 600000))) (eC (.int 3))) (eC (.int 1)))
def rX:SF:=aC 6 (Lf (eV 6) none (some (eC (.int 1))))
def T9:TF:=uJ (tE (bz h9 (eV 6) (eV 3))) (tE (bz Nn (lq jI [(eV 3)]) (eV 2)))
def VH:SF:=jo 3 (eV 6)
theorem M3:eZ=au r5 (au r6 (au (jm rT rX cA) (jm T9 VH cA))):=rfl
theorem JX (ns:List Int)(h:Nat)(h2:2<=h)(h4:h<=4)(m k:Nat)(hm:m<=3)(hm1:1<=m)(hk:k < 3)(ws:List Ju)(g:Good ws)(hw:∀x∈ws,JW x)(hl:ws.length<=m)(c5 c6:Sl) :
  ∃(ws':List Ju) (qX lP:Sl),Good ws'/\(∀x∈ws',JW x)/\ws'.length<=m/\1<=ws'.length/\eZ [fL (ns.map PyData.int),fN h,fN m,tL ws,tN k,c5,c6]=ah (.nx [fL (ns.map PyData.int),fN h,fN m,tL ws',tN k,qX,lP]):=by
 have c1:=kM ns (2+(k:Int)) (by omega)
 obtain⟨z,_,m1⟩:=GN (hU ns (2+(k:Int))) (20+(k:Int)) (by omega) (by omega)
 obtain⟨W,w1,w2,w3⟩:=GO (z:Int) h h2 h4
 have nW:=w1.n
 have s1:r5 [fL (ns.map PyData.int),fN h,fN m,tL ws,tN k,c5,c6]=ah (.nx [fL (ns.map PyData.int),fN h,fN m,tL ws,tN k,tN z,c6]):=by
  simp(disch:=omega) only[r5,rn,reduceIte,c1,m1]
 have s2:r6 [fL (ns.map PyData.int),fN h,fN m,tL ws,tN k,tN z,c6]=ah (.nx [fL (ns.map PyData.int),fN h,fN m,tL ws,tN k,tN z,tT W]):=by
  simp(disch:=omega) only[r6,rn,reduceIte,w3,ao nW]
 have t1:rT [fL (ns.map PyData.int),fN h,fN m,tL ws,tN k,tN z,tT W]=ah ((z:Int) / 600000 % 3==1):=by
  simp(disch:=omega) only[rT,rn,reduceIte]
 have s3:∃W':List Ju,JV W'/\W'.length<=12/\(jm rT rX cA) [fL (ns.map PyData.int),fN h,fN m,tL ws,tN k,tN z,tT W]=ah (.nx [fL (ns.map PyData.int),fN h,fN m,tL ws,tN k,tN z,tT W']):=by
  cases hb:((z:Int) / 600000 % 3==1) with
  | false=>
   rw[hb] at t1
   exact⟨W,w1,w2,(xg t1).trans rfl⟩
  | true=>
   rw[hb] at t1
   have gs:=OU (lo:=none) (hi:=some 1) nW
   refine⟨cutD W none (some 1),λx hx=> ?_,?_,(MZ t1).trans ?_⟩
   ·unfold cutD at hx
    exact w1 x (List.mem_of_mem_drop (List.mem_of_mem_take hx))
   ·unfold cutD
    rw[Uk,List.length_drop];omega
   ·simp(disch:=omega) only[rX,rn,reduceIte,Lf,oE,oI,ao nW,gs]
 obtain⟨W',v1,v2,s3⟩:=s3
 have iw:JW (.tuple W'):=⟨W',rfl,v1,v2⟩
 have nI:=M1 (x:=.tuple W') (ws:=ws) (iw.lay 57) (g.l 57)
 have Wz:=v1.n
 have t2:T9 [fL (ns.map PyData.int),fN h,fN m,tL ws,tN k,tN z,tT W']=ah (!dG ws (.tuple W') && decide ((ws.length:Int) < (m:Int))):=by
  cases hb:dG ws (.tuple W') <;> rw[hb] at nI <;> simp(disch:=omega) only[T9,rn,reduceIte,ao Wz,nI,Bool.not_true,Bool.not_false,UZ,Y9]
 have pre:∀o,(jm T9 VH cA) [fL (ns.map PyData.int),fN h,fN m,tL ws,tN k,tN z,tT W']=o->eZ [fL (ns.map PyData.int),fN h,fN m,tL ws,tN k,c5,c6]=o:=λo q=>by
  rw[M3,ax s1,ax s2,ax s3];exact q
 cases hb:(!dG ws (.tuple W') && decide ((ws.length:Int) < (m:Int))) with
 | true=>
  rw[hb] at t2
  rw[KQ,Bool.not_eq_true',J9] at hb
  have hz:ws.length < sizeLine:=X4 (show ws.length < 100 by omega) (by decide)
  refine⟨ws++[.tuple W'],tN z,tT W',g.snoc iw.bL iw.lay hb.1,λx hx=> ?_,by rw[Kx,X8];omega,by simp,pre _ ((MZ t2).trans ?_)⟩
  ·rcases Kk.mp hx with hx | hx
   ·exact hw x hx
   ·rw[K7.mp hx];exact iw
  ·simp(disch:=omega) only[VH,rn,reduceIte,ao Wz,hz]
 | false=>
  rw[hb] at t2
  refine⟨ws,tN z,tT W',g,hw,hl,?_,pre _ ((xg t2).trans rfl)⟩
  cases ws with
  | nil=>
   have:(!dG [] (PyData.tuple W') && decide ((([]:List Ju).length:Int) < (m:Int)))=true:=by
    rw[J4 (show((([]:List Ju).length:Nat):Int) < (m:Int) by simp;omega)];rfl
   rw[hb] at this
   cases this
  | cons a b=>simp
theorem O4 (ns:List Int)(h:Nat)(h2:2<=h)(h4:h<=4)(m:Nat)(hm:m<=3)(hm1:1<=m):∃ws:List Ju,d_ [.list (ns.map PyData.int),.int (h:Int),.int (m:Int)]=ah (true,.list ws)/\Good ws/\(∀x∈ws,JW x)/\1<=ws.length/\ws.length<=m:=by
 have c1:=kM ns 1 (by decide)
 obtain⟨w0,g0,i0,l0,e0⟩:∃w0:List Ju,Good w0/\(∀x∈w0,JW x)/\w0.length<=1/\(jm (tE (bz Ci (bz iO (aG az [(eV 0),(eC (.int 1))]) (eC (.int 2))) (eC (.int 1)))) (jo 3 (jH [])) cA) [fL (ns.map PyData.int),fN h,fN m,tL [],none,none,none]=ah (.nx [fL (ns.map PyData.int),fN h,fN m,tL w0,none,none,none]):=by
  cases hb:(hU ns 1 % 2==1) with
  | false=>exact⟨[],xc,(λx hx=>by cases hx),by simp,by simp(disch:=omega) only[rn,reduceIte,c1,hb]⟩
  | true=>
   have e:eR (Kd.fr []) (.tuple [])= .fr []:=rfl
   have hz:0 < sizeLine:=by decide
   exact⟨[.tuple []],xc.snoc (x:=.tuple []) rfl (λ_=>rfl) rfl,λx hx=>by rw[K7.mp hx];exact⟨[],rfl,(λy hy=>by cases hy),by simp⟩,by simp,by simp(disch:=omega) only[rn,reduceIte,c1,hb,e,hz]⟩
 obtain⟨Γ',k1,ws,c4,c5,c6,rfl,k2,k3,k4,k5⟩:=bo (g:=cS 4) (b:=eZ) (ds:=(List.range m).map λ(i:Nat)=>PyData.int (i:Int)) (Γ:=[fL (ns.map PyData.int),fN h,fN m,tL w0,none,none,none])
  (λi Γ=>∃(ws:List Ju) (c4 c5 c6:Sl),Γ=[fL (ns.map PyData.int),fN h,fN m,tL ws,c4,c5,c6]/\Good ws/\(∀x∈ws,JW x)/\ws.length<=m/\(0 < i->1<=ws.length))
  ⟨w0,none,none,none,rfl,g0,i0,by omega,λz=>absurd z (XJ _)⟩ (by
  rintro i d Γ hd ⟨ws,c4,c5,c6,rfl,q1,q2,q3,q4⟩
  obtain⟨rfl,hi⟩:=cy hd
  obtain⟨ws',qX,lP,r1,r2,r3,r4,r5⟩:=JX ns h h2 h4 m i hm hm1 (by omega) ws q1 q2 q3 c5 c6
  exact⟨_,_,rfl,.inl r5,ws',_,qX,lP,rfl,r1,r2,r3,λ_=>r4⟩)
 rw[K4,X9] at k5
 refine⟨ws,?_,k2,k3,k5 (by omega),k4⟩
 have hmt:(m:Int).toNat=m:=K0 m
 have s1:(aC 3 (cY [])) (eD 7 [.list (ns.map PyData.int),.int (h:Int),.int (m:Int)])=ah (.nx [fL (ns.map PyData.int),fN h,fN m,tL [],none,none,none]):=rfl
 have s3:(bU (fK (eV 2)) (cS 4) eZ) [fL (ns.map PyData.int),fN h,fN m,tL w0,none,none,none]=ah (.nx [fL (ns.map PyData.int),fN h,fN m,tL ws,c4,c5,c6]):=by
  simp(disch:=omega) only[rn,reduceIte,hmt,k1]
 refine iG ?_
 unfold nk
 rw[ax s1,ax e0,ax s3]
 rfl
theorem VI (a b c d:Ju):jE [a,b,c,d] 0=some a:=rfl
theorem VJ (a b c d:Ju):jE [a,b,c,d] 1=some b:=rfl
theorem VL (a b c d:Ju):jE [a,b,c,d] 2=some c:=rfl
theorem VM (a b c d:Ju):jE [a,b,c,d] 3=some d:=rfl
def M4 (h:Nat)(x:Ju):Prop:=∃vs:List Int,x= .tuple (vs.map PyData.int)/\vs.length=h
theorem M4.bL {h:Nat}{x:Ju}(i:M4 h x):bL x=true:=by
 obtain⟨vs,rfl,_⟩:=i
 exact c_ vs
theorem M4.lay {h:Nat}{x:Ju}(i:M4 h x)(n:Nat):lay (n+3) x=true:=by
 obtain⟨vs,rfl,_⟩:=i
 rw[Y.lay];exact I0 vs
theorem HR (a b c q:Int):∃z:Int,jE [PyData.int a,.int b,.int c] (q % 4 % 3)=some (.int z):=by
 have h1:=UK (q % 4) (show(3:Int)≠0 by decide)
 have h2:=Ux (q % 4) (show(0:Int) < 3 by decide)
 have hc:q % 4 % 3=0∨q % 4 % 3=1∨q % 4 % 3=2:=by omega
 rcases hc with e | e | e <;> rw[e]
 ·exact⟨a,rfl⟩
 ·exact⟨b,rfl⟩
 ·exact⟨c,rfl⟩
theorem M5 (a b c q:Int)(j:Nat)(hj:j < 4):∃z:Int,bV [fN j,fL [.int a,.int b,.int c],fI q]=ah (.fr [],.int z):=by
 have hc:j=0∨j=1∨j=2∨j=3:=by omega
 rcases hc with rfl | rfl | rfl | rfl
 ·obtain⟨z,e⟩:=HR a b c (q / 1)
  exact⟨z,by simp(disch:=omega) only[bV,rn,reduceIte,Int.cast_ofNat_Int,Int.natCast_zero,VI,e]⟩
 ·obtain⟨z,e⟩:=HR a b c (q / 4)
  exact⟨z,by simp(disch:=omega) only[bV,rn,reduceIte,Int.cast_ofNat_Int,Int.natCast_one,VJ,e]⟩
 ·obtain⟨z,e⟩:=HR a b c (q / 16)
  exact⟨z,by simp(disch:=omega) only[bV,rn,reduceIte,Int.cast_ofNat_Int,VL,e]⟩
 ·obtain⟨z,e⟩:=HR a b c (q / 64)
  exact⟨z,by simp(disch:=omega) only[bV,rn,reduceIte,Int.cast_ofNat_Int,VM,e]⟩
def VN:SF:=aC 6 (aG bJ [(aG az [(eV 0),(bz ia (eC (.int 8)) (eV 5))]),(bz ia (eC (.int 300)) (eV 5))])
def VO:SF:=aC 7 (lq ib [(cI (fK (eV 1)) [3,6] gm bV)])
def T_:TF:=tE (bz h9 (eV 7) (eV 4))
def VP:SF:=jo 4 (eV 7)
theorem GP:da=au VN (au VO (jm T_ VP cA)):=rfl
theorem EV (ns:List Int)(h:Nat)(h4:h<=4)(m:Ju)(a b c:Int)(k:Nat)(hk:k < 6)(ss:List Ju)(g:Good ss)(hs:∀x∈ss,M4 h x)(hl:ss.length<=k)(c6 c7:Sl) :
  ∃(ss':List Ju) (lP gR:Sl),Good ss'/\(∀x∈ss',M4 h x)/\ss'.length<=k+1/\1<=ss'.length/\da [fL (ns.map PyData.int),fN h,fA m,tL [.int a,.int b,.int c],tL ss,tN k,c6,c7]=ah (.nx [fL (ns.map PyData.int),fN h,fA m,tL [.int a,.int b,.int c],tL ss',tN k,lP,gR]):=by
 have c1:=kM ns (8+(k:Int)) (by omega)
 obtain⟨z,_,m1⟩:=GN (hU ns (8+(k:Int))) (300+(k:Int)) (by omega) (by omega)
 have s1:VN [fL (ns.map PyData.int),fN h,fA m,tL [.int a,.int b,.int c],tL ss,tN k,c6,c7]=ah (.nx [fL (ns.map PyData.int),fN h,fA m,tL [.int a,.int b,.int c],tL ss,tN k,tN z,c7]):=by
  simp(disch:=omega) only[VN,rn,reduceIte,c1,m1]
 obtain⟨zs,z1,z2⟩:=EU (fe:=bV) (cap:=[fL [.int a,.int b,.int c],fN z]) ((List.range h).map λ(i:Nat)=>PyData.int (i:Int)) (λd hd=>by
  obtain⟨j,hj,rfl⟩:=Ky.mp hd
  exact M5 a b c (z:Int) j (by have:=X2.mp hj;omega))
 have Wd:zs.length=h:=by simpa using z1
 have k1:=gM zs PyData.int
 have m2:(zs.map λx=>(Kd.fr [],PyData.int x)).map Prod.snd=zs.map PyData.int:=by rw[X7];rfl
 have Xn:h<=100000:=by omega
 have tl:=dh (c_ zs)
 have nz:=c_ zs
 have s2:VO [fL (ns.map PyData.int),fN h,fA m,tL [.int a,.int b,.int c],tL ss,tN k,tN z,c7]=ah (.nx [fL (ns.map PyData.int),fN h,fA m,tL [.int a,.int b,.int c],tL ss,tN k,tN z,tT (zs.map PyData.int)]):=by
  simp(disch:=omega) only[VO,rn,reduceIte,cI,K0,z2,k1,m2,Xn,tl]
 have iw:M4 h (.tuple (zs.map PyData.int)):=⟨zs,rfl,Wd⟩
 have nI:=M1 (x:=.tuple (zs.map PyData.int)) (ws:=ss) (iw.lay 57) (g.l 57)
 have t2:T_ [fL (ns.map PyData.int),fN h,fA m,tL [.int a,.int b,.int c],tL ss,tN k,tN z,tT (zs.map PyData.int)]=ah (!dG ss (.tuple (zs.map PyData.int))):=by
  simp(disch:=omega) only[T_,rn,reduceIte,ao nz,nI]
 have pre:∀o,(jm T_ VP cA) [fL (ns.map PyData.int),fN h,fA m,tL [.int a,.int b,.int c],tL ss,tN k,tN z,tT (zs.map PyData.int)]=o->da [fL (ns.map PyData.int),fN h,fA m,tL [.int a,.int b,.int c],tL ss,tN k,c6,c7]=o:=λo q=>by
  rw[GP,ax s1,ax s2];exact q
 cases hb:dG ss (.tuple (zs.map PyData.int)) with
 | false=>
  rw[hb] at t2
  have hz:ss.length < sizeLine:=X4 (show ss.length < 100 by omega) (by decide)
  refine⟨ss++[.tuple (zs.map PyData.int)],tN z,tT (zs.map PyData.int),g.snoc iw.bL iw.lay hb,λx hx=> ?_,by rw[Kx,X8];omega,by simp,pre _ ((MZ t2).trans ?_)⟩
  ·rcases Kk.mp hx with hx | hx
   ·exact hs x hx
   ·rw[K7.mp hx];exact iw
  ·simp(disch:=omega) only[VP,rn,reduceIte,ao nz,hz]
 | true=>
  rw[hb] at t2
  refine⟨ss,tN z,tT (zs.map PyData.int),g,hs,by omega,?_,pre _ ((xg t2).trans rfl)⟩
  cases ss with
  | nil=>cases hb
  | cons a b=>simp
theorem JY (ns:List Int)(h:Nat)(h4:h<=4)(m:Nat)(hm:m<=6)(hm1:1<=m):∃ss:List Ju,cJ [.list (ns.map PyData.int),.int (h:Int),.int (m:Int)]=ah (true,.list ss)/\Good ss/\(∀x∈ss,M4 h x)/\1<=ss.length/\ss.length<=6:=by
 obtain⟨a,b,c,v1⟩:=JU ns
 obtain⟨Γ',k1,ss,c5,c6,c7,rfl,k2,k3,k4,k5⟩:=bo (g:=cS 5) (b:=da) (ds:=(List.range m).map λ(i:Nat)=>PyData.int (i:Int)) (Γ:=[fL (ns.map PyData.int),fN h,fN m,tL [.int a,.int b,.int c],tL [],none,none,none])
  (λi Γ=>∃(ss:List Ju) (c5 c6 c7:Sl),Γ=[fL (ns.map PyData.int),fN h,fN m,tL [.int a,.int b,.int c],tL ss,c5,c6,c7]/\Good ss/\(∀x∈ss,M4 h x)/\ss.length<=i/\(0 < i->1<=ss.length))
  ⟨[],none,none,none,rfl,xc,(λx hx=>by cases hx),Ku _,λz=>absurd z (XJ _)⟩ (by
  rintro i d Γ hd ⟨ss,c5,c6,c7,rfl,q1,q2,q3,q4⟩
  obtain⟨rfl,hi⟩:=cy hd
  obtain⟨ss',lP,gR,r1,r2,r3,r4,r5⟩:=EV ns h h4 (.int (m:Int)) a b c i (by omega) ss q1 q2 q3 c6 c7
  exact⟨_,_,rfl,.inl r5,ss',_,lP,gR,rfl,r1,r2,r3,λ_=>r4⟩)
 rw[K4,X9] at k4 k5
 refine⟨ss,?_,k2,k3,k5 (by omega),by omega⟩
 have hmt:(m:Int).toNat=m:=K0 m
 have s1:(aC 3 (aG bB [(eV 0)])) (eD 8 [.list (ns.map PyData.int),.int (h:Int),.int (m:Int)])=ah (.nx [fL (ns.map PyData.int),fN h,fN m,tL [.int a,.int b,.int c],none,none,none,none]):=by
  simp(disch:=omega) only[rn,reduceIte,v1]
 have s2:(aC 4 (cY [])) [fL (ns.map PyData.int),fN h,fN m,tL [.int a,.int b,.int c],none,none,none,none]=ah (.nx [fL (ns.map PyData.int),fN h,fN m,tL [.int a,.int b,.int c],tL [],none,none,none]):=rfl
 have s3:(bU (fK (eV 2)) (cS 5) da) [fL (ns.map PyData.int),fN h,fN m,tL [.int a,.int b,.int c],tL [],none,none,none]=ah (.nx [fL (ns.map PyData.int),fN h,fN m,tL [.int a,.int b,.int c],tL ss,c5,c6,c7]):=by
  simp(disch:=omega) only[rn,reduceIte,hmt,k1]
 refine iG ?_
 unfold kS
 rw[ax s1,ax s2,ax s3]
 rfl
theorem O5 (ns:List Int):∃(h:Nat) (ws ss:List Ju) (k:Nat),2<=h/\h<=4/\Good ws/\(∀x∈ws,JW x)/\1<=ws.length/\ws.length<=3/\Good ss/\(∀x∈ss,M4 h x)/\1<=ss.length/\ss.length<=6/\k<=3/\cm [.list (ns.map PyData.int)]=ah (false,.tuple [.int (h:Int),.list ws,.int (k:Int),.list ss]):=by
 have c0:=kM ns 0 (by decide)
 have c7:=kM ns 7 (by decide)
 generalize hU ns 0=z at c0
 generalize hU ns 7=y at c7
 have b1:=UK z (show(3:Int)≠0 by decide)
 have b2:=Ux z (show(0:Int) < 3 by decide)
 have b3:=UK (y / 2) (show(6:Int)≠0 by decide)
 have b4:=Ux (y / 2) (show(0:Int) < 6 by decide)
 obtain⟨sm,hsm⟩:=Yq (show(0:Int)<=1+y / 2 % 6 by omega)
 have hsm:1+y / 2 % 6=(sm:Int):=hsm
 obtain⟨h,m,q,hh,h2,h4,m1,m3,q1,q4,e1,e2⟩:∃(h m q:Nat),2+z % 3=(h:Int)/\2<=h/\h<=4/\1<=m/\m<=3/\1<=q/\q<=4/\jE [PyData.int 3,.int 3,.int 2] ((h:Int) - 2)=some (.int (m:Int))/\jE [PyData.int 4,.int 3,.int 3] ((h:Int) - 2)=some (.int (q:Int)):=by
  have hc:z % 3=0∨z % 3=1∨z % 3=2:=by omega
  rcases hc with e | e | e <;> rw[e]
  ·exact⟨2,3,4,rfl,by decide,by decide,by decide,by decide,by decide,by decide,rfl,rfl⟩
  ·exact⟨3,3,3,rfl,by decide,by decide,by decide,by decide,by decide,by decide,rfl,rfl⟩
  ·exact⟨4,2,3,rfl,by decide,by decide,by decide,by decide,by decide,by decide,rfl,rfl⟩
 have q0:(0:Int) < (q:Int):=by omega
 have d1:=UK (z / 3) (show(q:Int)≠0 by omega)
 have d2:=Ux (z / 3) q0
 obtain⟨k,hk⟩:=Yq d1
 have hk:z / 3 % (q:Int)=(k:Int):=hk
 obtain⟨ws,w1,w2,w3,w4,w5⟩:=O4 ns h h2 h4 m m3 m1
 obtain⟨ss,s1,s2,s3,s4,s5⟩:=JY ns h h4 sm (by omega) (by omega)
 refine⟨h,ws,ss,k,h2,h4,w2,w3,w4,by omega,s2,s3,s4,s5,by omega,?_⟩
 have nt:∀kk,eR kk (.tuple [.int (h:Int),.list ws,.int (k:Int),.list ss])=kk:=λkk=>rfl
 simp(disch:=omega) only[cm,nq,rn,h_,lR,bX,reduceIte,c0,c7,hh,hsm,e1,e2,hk,w1,s1,nt]
theorem EW (d0 d1 d2 d3 d4 d8 d9:Sl)(r:List Ju)(hr:aq r=true)(hrl:r.length<=10):∀(l acc:List Ju) (c7:Sl),aq l=true->acc.length+l.length<=10000->∃gR:Sl,bj (cS 7) iZ l [d0,d1,d2,d3,d4,tL acc,tT r,c7,d8,d9]=
  ah (.nx [d0,d1,d2,d3,d4,tL (acc++l.map λw=> .tuple (r++[w])),tT r,gR,d8,d9])
 | [],acc,c7,_,_=>⟨c7,by simp[bj]⟩
 | w :: l,acc,c7,hn,hl=>by
  simp only[aq,KQ] at hn
  rw[Kv] at hl
  obtain⟨gR,ih⟩:=EW d0 d1 d2 d3 d4 d8 d9 r hr hrl l (acc++[.tuple (r++[w])]) (tA w) hn.2 (by rw[Kx,X8];omega)
  refine⟨gR,?_⟩
  have hs:cS 7 (eR .base w) w [d0,d1,d2,d3,d4,tL acc,tT r,c7,d8,d9]=some [d0,d1,d2,d3,d4,tL acc,tT r,tA w,d8,d9]:=by rw[dZ hn.1];rfl
  have nw:aq [w]=true:=by simp only[aq,hn.1,Xv]
  have ga:=MY hr nw (Kq (show r.length+[w].length<=100 by simp;omega) (by decide))
  have hz:acc.length < sizeLine:=X4 (show acc.length < 100000 by omega) (by decide)
  have hb:iZ [d0,d1,d2,d3,d4,tL acc,tT r,tA w,d8,d9]=ah (.nx [d0,d1,d2,d3,d4,tL (acc++[.tuple (r++[w])]),tT r,tA w,d8,d9]):=by
   simp only[iZ,rn,reduceIte,ao hr,dZ hn.1,ao nw,ga,hz]
  rw[bj,hs,cw,ay,hb,ay]
  refine ih.trans ?_
  rw[KZ,Xj];rfl
theorem EX (ws:List Ju)(g:Good ws)(hw:ws.length<=8)(d1 d2 d3 d4 d8 d9:Sl):∀(l:List (List Ju)) (acc:List Ju) (c6 c7:Sl),(∀r∈l,aq r=true/\r.length<=10)->acc.length+l.length*ws.length<=9000->∃lP gR:Sl,bj (cS 6) e_ (tups l) [fL ws,d1,d2,d3,d4,tL acc,c6,c7,d8,d9]=
  ah (.nx [fL ws,d1,d2,d3,d4,tL (acc++tups (l.flatMap λr=>ws.map λw=>r++[w])),lP,gR,d8,d9])
 | [],acc,c6,c7,_,_=>⟨c6,c7,by simp[bj,tups]⟩
 | r :: l,acc,c6,c7,hl,hb=>by
  obtain⟨h1,h2⟩:=hl r K8
  have em:(r :: l).length*ws.length=l.length*ws.length+ws.length:=by rw[Kv,UX]
  rw[em] at hb
  obtain⟨gR,e⟩:=EW (fL ws) d1 d2 d3 d4 d8 d9 r h1 h2 ws acc c7 g.n (by omega)
  obtain⟨GQ,GR,ih⟩:=EX ws g hw d1 d2 d3 d4 d8 d9 l (acc++ws.map λw=> .tuple (r++[w])) (tT r) gR (λx hx=>hl x (K9 _ hx)) (by rw[Kx,K4];omega)
  refine⟨GQ,GR,?_⟩
  have hs:cS 6 (eR .base (.tuple r)) (.tuple r) [fL ws,d1,d2,d3,d4,tL acc,c6,c7,d8,d9]=some [fL ws,d1,d2,d3,d4,tL acc,tT r,c7,d8,d9]:=by rw[ao h1];rfl
  have hb2:e_ [fL ws,d1,d2,d3,d4,tL acc,tT r,c7,d8,d9]=ah (.nx [fL ws,d1,d2,d3,d4,tL (acc++ws.map λw=> .tuple (r++[w])),tT r,gR,d8,d9]):=by
   simp only[e_,rn,reduceIte,e]
  show bj (cS 6) e_ (.tuple r :: tups l) _=_
  rw[bj,hs,cw,ay,hb2,ay]
  refine ih.trans ?_
  rw[List.flatMap_cons,ET,Xj]
  congr 8
  simp[tups]
theorem EY (d0 d1 d2 d3 d4 d5 d7:Sl)(s:Ju)(hs:bL s=true):∀(l:List (List Ju)) (acc:List Ju) (c6:Sl),(∀r∈l,aq r=true)->acc.length+l.length<=9000->∃lP:Sl,bj (cS 6) fm (tups l) [d0,d1,d2,d3,d4,d5,c6,d7,tL acc,tA s]=
  ah (.nx [d0,d1,d2,d3,d4,d5,lP,d7,tL (acc++pairD s l),tA s])
 | [],acc,c6,_,_=>⟨c6,by simp[bj,tups,pairD]⟩
 | r :: l,acc,c6,hl,hb=>by
  have h1:=hl r K8
  rw[Kv] at hb
  obtain⟨lP,ih⟩:=EY d0 d1 d2 d3 d4 d5 d7 s hs l (acc++[.tuple [s,.tuple r]]) (tT r) (λx hx=>hl x (K9 _ hx)) (by rw[Kx,X8];omega)
  refine⟨lP,?_⟩
  have hg:cS 6 (eR .base (.tuple r)) (.tuple r) [d0,d1,d2,d3,d4,d5,c6,d7,tL acc,tA s]=some [d0,d1,d2,d3,d4,d5,tT r,d7,tL acc,tA s]:=by rw[ao h1];rfl
  have nt:aq [s,.tuple r]=true:=by simp only[aq,hs,eG,h1,Xv]
  have hz:acc.length < sizeLine:=X4 (show acc.length < 100000 by omega) (by decide)
  have hb2:fm [d0,d1,d2,d3,d4,d5,tT r,d7,tL acc,tA s]=ah (.nx [d0,d1,d2,d3,d4,d5,tT r,d7,tL (acc++[.tuple [s,.tuple r]]),tA s]):=by
   simp only[fm,rn,reduceIte,ao h1,dZ hs,ao nt,hz]
  show bj (cS 6) fm (.tuple r :: tups l) _=_
  rw[bj,hg,cw,ay,hb2,ay]
  refine ih.trans ?_
  rw[Xj];rfl
theorem EZ (d0 d1 d2 d4 d5 d7:Sl)(R:List (List Ju))(hR:∀r∈R,aq r=true)(hRl:R.length<=1000):∀(l acc:List Ju) (c6 c9:Sl) (b3:Bool),(∀s∈l,bL s=true)->acc.length+l.length*R.length<=8000->∃(lP jG:Sl) (Ua:Bool),bj (cS 9) gF l [d0,d1,d2,some (b3,.list (tups R)),d4,d5,c6,d7,tL acc,c9]=
  ah (.nx [d0,d1,d2,some (Ua,.list (tups R)),d4,d5,lP,d7,tL (acc++l.flatMap λs=>pairD s R),jG])
 | [],acc,c6,c9,b3,_,_=>⟨c6,c9,b3,by simp[bj]⟩
 | s :: l,acc,c6,c9,b3,hl,hb=>by
  have h1:=hl s K8
  have em:(s :: l).length*R.length=l.length*R.length+R.length:=by rw[Kv,UX]
  rw[em] at hb
  have pl:(pairD s R).length=R.length:=K4 _
  obtain⟨lP,e⟩:=EY d0 d1 d2 (fL (tups R)) d4 d5 d7 s h1 R acc c6 hR (by omega)
  obtain⟨GQ,M6,VQ,ih⟩:=EZ d0 d1 d2 d4 d5 d7 R hR hRl l (acc++pairD s R) lP (tA s) false (λx hx=>hl x (K9 _ hx)) (by rw[Kx,pl];omega)
  refine⟨GQ,M6,VQ,?_⟩
  have hg:cS 9 (eR .base s) s [d0,d1,d2,some (b3,.list (tups R)),d4,d5,c6,d7,tL acc,c9]=some [d0,d1,d2,some (b3,.list (tups R)),d4,d5,c6,d7,tL acc,tA s]:=by rw[dZ h1];rfl
  have hb2:gF [d0,d1,d2,some (b3,.list (tups R)),d4,d5,c6,d7,tL acc,tA s]=ah (.nx [d0,d1,d2,fL (tups R),d4,d5,lP,d7,tL (acc++pairD s R),tA s]):=by
   have:∀b3:Bool,gF [d0,d1,d2,some (b3,.list (tups R)),d4,d5,c6,d7,tL acc,tA s]=bj (cS 6) fm (tups R) [d0,d1,d2,fL (tups R),d4,d5,c6,d7,tL acc,tA s]:=λb3=>by cases b3 <;> rfl
   rw[this];exact e
  rw[bj,hg,cw,ay,hb2,ay]
  refine ih.trans ?_
  rw[List.flatMap_cons,Xj]
theorem JZ {ws:List Ju}(g:Good ws){k:Nat}(hk:k<=5):∀r∈rws ws k,aq r=true/\r.length<=10:=λr hr=>⟨ES g hr,by have:=(BQ hr).1;omega⟩
theorem GS (ws ss:List Ju)(k:Nat)(g:Good ws)(gs:Good ss)(hw1:1<=ws.length)(hw:ws.length<=3)(hk:k<=3)(hs:ss.length<=6):dk [.list ws,.int (k:Int),.list ss]=ah (true,.list (xf ws ss k)):=by
 have hp:∀i,i<=3->ws.length^i<=27:=λi hi=>Kq (Nat.pow_le_pow_left hw i) (Kq (Nat.pow_le_pow_right (by decide) hi) (by decide))
 have hlen:∀i,(rws ws i).length=ws.length^i:=O1 ws
 obtain⟨Γ',k1,c4,c5,c6,c7,rfl⟩:=bo (g:=cS 4) (b:=gE) (ds:=(List.range k).map λ(i:Nat)=>PyData.int (i:Int)) (Γ:=[fL ws,fN k,fL ss,tL (tups (rws ws 0)),none,none,none,none,none,none])
  (λi Γ=>∃c4 c5 c6 c7:Sl,Γ=[fL ws,fN k,fL ss,tL (tups (rws ws i)),c4,c5,c6,c7,none,none]) ⟨none,none,none,none,rfl⟩ (by
  rintro i d Γ hd ⟨c4,c5,c6,c7,rfl⟩
  obtain⟨rfl,hi⟩:=cy hd
  have hl1:=hlen i
  have hp1:=hp i (by omega)
  have hm:(rws ws i).length*ws.length<=81:=by rw[hl1];exact Kq (Yu hp1 hw) (by decide)
  obtain⟨lP,gR,e⟩:=EX ws g (by omega) (fN k) (fL ss) (fL (tups (rws ws i))) (tN i) none none (rws ws i) [] c6 c7 (JZ g (by omega)) (by rw[Uj];omega)
  have el:tups ((rws ws i).flatMap λr=>ws.map λw=>r++[w])=tups (rws ws (i+1)):=rfl
  rw[Y4,el] at e
  have nn:bL (.list (tups (rws ws (i+1))))=false:=rfl
  have hs3:gE [fL ws,fN k,fL ss,tL (tups (rws ws i)),tN i,c5,c6,c7,none,none]=ah (.nx [fL ws,fN k,fL ss,tL (tups (rws ws (i+1))),tN i,none,lP,gR,none,none]):=by
   have e2:(bU (pk (eV 3)) (cS 6) e_) [fL ws,fN k,fL ss,tL (tups (rws ws i)),tN i,tL [],c6,c7,none,none]=ah (.nx [fL ws,fN k,fL ss,fL (tups (rws ws i)),tN i,tL (tups (rws ws (i+1))),lP,gR,none,none]):=e
   unfold gE
   rw[ax (show(aC 5 (cY [])) _=ah (.nx [fL ws,fN k,fL ss,tL (tups (rws ws i)),tN i,tL [],c6,c7,none,none]) from rfl),ax e2]
   rfl
  exact⟨_,_,rfl,.inl hs3,tN i,none,lP,gR,rfl⟩)
 rw[K4,X9] at k1
 have hl1:=hlen k
 have hp1:=hp k hk
 have hm:ss.length*(rws ws k).length<=162:=by rw[hl1];exact Kq (Yu hs hp1) (by decide)
 obtain⟨lP,jG,Ua,e⟩:=EZ (fL ws) (fN k) (fL ss) c4 c5 c7 (rws ws k) (λr hr=>ES g hr) (by omega) ss [] c6 none true (λs hs'=>gs.bL hs') (by rw[Uj];omega)
 have er:([]:List Ju)++(ss.flatMap λs=>pairD s (rws ws k))=xf ws ss k:=O0 ws ss k
 rw[er] at e
 have hkt:(k:Int).toNat=k:=K0 k
 have s1:(aC 3 (cY [(jH [])])) (eD 10 [.list ws,.int (k:Int),.list ss])=ah (.nx [fL ws,fN k,fL ss,tL (tups (rws ws 0)),none,none,none,none,none,none]):=rfl
 have s2:(bU (fK (eV 1)) (cS 4) gE) [fL ws,fN k,fL ss,tL (tups (rws ws 0)),none,none,none,none,none,none]=ah (.nx [fL ws,fN k,fL ss,tL (tups (rws ws k)),c4,c5,c6,c7,none,none]):=by
  simp(disch:=omega) only[rn,reduceIte,hkt,k1]
 have s3:(aC 8 (cY [])) [fL ws,fN k,fL ss,tL (tups (rws ws k)),c4,c5,c6,c7,none,none]=ah (.nx [fL ws,fN k,fL ss,tL (tups (rws ws k)),c4,c5,c6,c7,tL [],none]):=rfl
 have s4:(bU (pk (eV 2)) (cS 9) gF) [fL ws,fN k,fL ss,tL (tups (rws ws k)),c4,c5,c6,c7,tL [],none]=ah (.nx [fL ws,fN k,fL ss,some (Ua,.list (tups (rws ws k))),c4,c5,lP,c7,tL (xf ws ss k),jG]):=e
 refine iG ?_
 unfold nu
 rw[ax s1,ax s2,ax s3,ax s4]
 cases Ua <;> rfl
abbrev Rn:=List Int×List (List Ju)
def gy (p:Rn):Ju:=dS p.1 p.2
theorem E1 {ws:List Ju}(hw:∀x∈ws,JW x):∀(l:List Ju),(∀x∈l,x∈ws)->∃Ws:List (List Ju),l=Ws.map PyData.tuple/\∀W∈Ws,JV W/\W.length<=12
 | [],_=>⟨[],rfl,λW hW=>by cases hW⟩
 | x :: l,h=>by
  obtain⟨Ws,rfl,h2⟩:=E1 hw l λy hy=>h y (K9 _ hy)
  obtain⟨W,rfl,p1,p2⟩:=hw x (h x K8)
  refine⟨W :: Ws,rfl,λV hV=> ?_⟩
  rcases K2.mp hV with rfl | hV
  ·exact⟨p1,p2⟩
  ·exact h2 V hV
theorem zc {ws ss:List Ju}{h k:Nat}(hw:∀x∈ws,JW x)(hs:∀x∈ss,M4 h x)(hw1:1<=ws.length)(hk:k<=5):∀(l:List Nat),(∀N∈l,N < ss.length*ws.length^k)->∃L:List Rn,l.map (BP ws ss k)=L.map gy/\L.length=l.length/\∀p∈L,uz h 12 p.1 p.2/\p.2.length=k
 | [],_=>⟨[],rfl,rfl,λp hp=>by cases hp⟩
 | N :: l,hN=>by
  obtain⟨L,e1,e2,e3⟩:=zc hw hs hw1 hk l λM hM=>hN M (K9 _ hM)
  have hq:N / ws.length^k < ss.length:=Nat.div_lt_of_lt_mul (by rw[Yk];exact hN N K8)
  obtain⟨vs,ev,lv⟩:=hs _ (getD_mem hq)
  obtain⟨Ws,eW,pW⟩:=E1 hw (oY ws (N % ws.length^k) k) λx hx=>EO hw1 hx
  have WA:Ws.length=k:=by
   have:=congrArg List.length eW
   rw[MV,K4] at this
   exact this.symm
  refine⟨(vs,Ws) :: L,?_,by rw[Kv,Kv,e2],λp hp=> ?_⟩
  ·rw[KZ,KZ,e1]
   congr 1
   show PyData.tuple [_,.tuple _]=PyData.tuple [_,.tuple _]
   rw[ev,eW]
  ·rcases K2.mp hp with rfl | hp
   ·exact⟨⟨lv,by rw[WA];exact hk,λW hW=>pW W hW⟩,WA⟩
   ·exact e3 p hp
abbrev Gp:=List (Ju×List Nat)
def aN (G:Gp):oZ:=G.map λp=>(p.1,.list (p.2.map nat))
def lO:Gp->Ju->Nat->Gp
 | [],x,i=> [(x,[i])]
 | p :: r,x,i=>if PyData.eqv p.1 x=true then (p.1,p.2++[i]) :: r else p :: lO r x i
theorem HS:∀(G:Gp) (x:Ju) (i:Nat),(∀p∈G,p.2.length < sizeLine)->Hf (aN G) x (.int (i:Int))=some (aN (lO G x i))
 | [],x,i,_=>rfl
 | p :: r,x,i,h=>by
  have h1:=h p K8
  show Hf ((p.1,.list (p.2.map nat)) :: aN r) x _=_
  rw[Hf,lO]
  by_cases e:PyData.eqv p.1 x=true
  ·rw[J5 e,J5 e]
   have hn:aq (p.2.map nat)=true:=aP _ (λ_=>rfl) _
   have hl:(p.2.map nat).length < sizeLine:=by rw[K4];exact h1
   simp only[hn,hl,and_self,if_true]
   simp[aN,nat]
  ·rw[J6 e,J6 e,HS r x i λq hq=>h q (K9 _ hq)]
   rfl
theorem E2 {x:Ju}{i:Nat}:∀{G:Gp} {q:Ju×List Nat},q∈lO G x i->q∈G∨q=(x,[i])∨∃p∈G,q=(p.1,p.2++[i])
 | [],q,h=>by rw[lO] at h;exact .inr (.inl (K7.mp h))
 | p :: r,q,h=>by
  rw[lO] at h
  split at h
  ·rcases K2.mp h with h | h
   ·exact .inr (.inr ⟨p,K8,h⟩)
   ·exact .inl (K9 _ h)
  ·rcases K2.mp h with h | h
   ·exact .inl (h ▸ K8)
   ·rcases E2 h with h | h | ⟨p',h1,h2⟩
    ·exact .inl (K9 _ h)
    ·exact .inr (.inl h)
    ·exact .inr (.inr ⟨p',K9 _ h1,h2⟩)
theorem E3 {x:Ju}{i:Nat}:∀{G:Gp},(lO G x i).length<=G.length+1
 | []=>by simp[lO]
 | p :: r=>by
  rw[lO]
  split
  ·simp
  ·have:=E3 (x:=x) (i:=i) (G:=r);simp only[Kv];omega
structure zd (G:Gp)(b:Nat):Prop where
 k:∀p∈G,fM p.1=true/\p.2.length<=b
 l:G.length<=b
theorem zd.add {G:Gp}{b:Nat}(g:zd G b){x:Ju}(hx:fM x=true)(i:Nat):zd (lO G x i) (b+1) where
 k:=λq hq=>by
  rcases E2 hq with h | rfl | ⟨p,hp,rfl⟩
  ·have:=g.k q h;exact⟨this.1,by omega⟩
  ·exact⟨hx,by simp⟩
  ·have:=g.k p hp;exact⟨this.1,by rw[Kx,X8];omega⟩
 l:=by have:=E3 (x:=x) (i:=i) (G:=G);have:=g.l;omega
theorem zd.mono {G:Gp}{b c:Nat}(g:zd G b)(h:b<=c):zd G c:=⟨λp hp=>⟨(g.k p hp).1,Kq (g.k p hp).2 h⟩,Kq g.l h⟩
theorem zd.jv {G:Gp}{b:Nat}(g:zd G b):jv (aN G)=true:=Uv.mpr λp hp=>by
 obtain⟨q,hq,rfl⟩:=Ky.mp hp
 exact(g.k q hq).1
theorem M7 (G:Gp):(aN G).length=G.length:=K4 _
theorem xh {x:Ju}{i:Nat}(hx:pl x=true):∀{G:Gp},(∀p∈G,pl p.1=true)->(x∉G.map (·.1)/\lO G x i=G++[(x,[i])])∨∃A l B,G=A++(x,l) :: B/\lO G x i=A++(x,l++[i]) :: B
 | [],_=> .inl ⟨by simp,rfl⟩
 | p :: r,h=>by
  have hp:=h p K8
  rw[lO]
  by_cases e:PyData.eqv p.1 x=true
  ·have e':=(mG hp hx).mp e
   rw[J5 e]
   exact .inr ⟨[],p.2,r,by rw[←e'];rfl,by rw[←e'];rfl⟩
  ·have e':p.1≠x:=λz=>e ((mG hp hx).mpr z)
   rw[J6 e]
   rcases xh hx (G:=r) λq hq=>h q (K9 _ hq) with⟨h1,h2⟩ | ⟨A,l,B,h1,h2⟩
   ·refine .inl ⟨?_,by rw[h2];rfl⟩
    rw[KZ,K2]
    rintro(z | z)
    ·exact e' z.symm
    ·exact h1 z
   ·exact .inr ⟨p :: A,l,B,by rw[h1];rfl,by rw[h2];rfl⟩
structure GI (E:List (Ju×Nat))(G:Gp):Prop where
 nd:(G.map (·.1)).Nodup
 p:∀p∈G,pl p.1=true
 ne:∀p∈G,p.2≠[]
 mem:∀p∈G,∀i,i∈p.2↔(p.1,i)∈E
 key:∀e∈E,∃l,(e.1,l)∈G
theorem GI.add {E:List (Ju×Nat)}{G:Gp}(g:GI E G){x:Ju}(hx:pl x=true)(i:Nat):GI (E++[(x,i)]) (lO G x i):=by
 rcases xh (i:=i) hx g.p with⟨h1,h2⟩ | ⟨A,l,B,rfl,h2⟩
 ·rw[h2]
  have hne:∀p∈G,p.1≠x:=λp hp z=>h1 (z ▸ Ky.mpr ⟨p,hp,rfl⟩)
  refine⟨?_,?_,?_,?_,?_⟩
  ·rw[X6]
   refine XX.mpr ⟨g.nd,by simp,?_⟩
   intro a ha b hb
   rw[KZ,Yx,K7] at hb
   intro z;exact h1 (by rw[←show a=x from z.trans hb];exact ha)
  ·intro p hp
   rcases Kk.mp hp with h | h
   ·exact g.p p h
   ·rw[K7.mp h];exact hx
  ·intro p hp
   rcases Kk.mp hp with h | h
   ·exact g.ne p h
   ·rw[K7.mp h];simp
  ·intro p hp j
   rcases Kk.mp hp with h | h
   ·rw[g.mem p h j,Kk,K7]
    exact⟨.inl,λz=>z.elim id λz=>absurd (congrArg Prod.fst z) (hne p h)⟩
   ·rw[K7.mp h,Kk,K7,K7]
    constructor
    ·rintro rfl;exact .inr rfl
    ·rintro(z | z)
     ·obtain⟨l,hl⟩:=g.key _ z
      exact absurd rfl (hne _ hl)
     ·exact congrArg Prod.snd z
  ·intro e he
   rcases Kk.mp he with h | h
   ·obtain⟨l,hl⟩:=g.key e h
    exact⟨l,KY _ hl⟩
   ·rw[K7.mp h];exact⟨[i],K1 _ (K7.mpr rfl)⟩
 ·rw[h2]
  have nd:=g.nd
  rw[X6,KZ] at nd
  have hA:∀p∈A,p.1≠x:=λp hp=>(XX.mp nd).2.2 _ (Ky.mpr ⟨p,hp,rfl⟩) _ K8
  have hB:∀p∈B,p.1≠x:=λp hp z=>(KJ.mp (XX.mp nd).2.1).1 (Ky.mpr ⟨p,hp,z⟩)
  have old:∀p,p∈A∨p∈B->p∈A++(x,l) :: B/\p.1≠x:=λp hp=>hp.elim (λh=>⟨KY _ h,hA p h⟩) λh=>⟨K1 _ (K9 _ h),hB p h⟩
  have cs:∀p,p∈A++(x,l++[i]) :: B->(p∈A∨p∈B)∨p=(x,l++[i]):=λp hp=>by
   rcases Kk.mp hp with h | h
   ·exact .inl (.inl h)
   ·rcases K2.mp h with h | h
    ·exact .inr h
    ·exact .inl (.inr h)
  have xl:(x,l)∈A++(x,l) :: B:=K1 _ K8
  refine⟨?_,?_,?_,?_,?_⟩
  ·rw[X6,KZ];exact nd
  ·intro p hp
   rcases cs p hp with h | rfl
   ·exact g.p p (old p h).1
   ·exact hx
  ·intro p hp
   rcases cs p hp with h | rfl
   ·exact g.ne p (old p h).1
   ·simp
  ·intro p hp j
   rcases cs p hp with h | rfl
   ·rw[g.mem p (old p h).1 j,Kk,K7]
    exact⟨.inl,λz=>z.elim id λz=>absurd (congrArg Prod.fst z) (old p h).2⟩
   ·rw[Kk,Kk,K7,K7,g.mem _ xl j]
    exact⟨λz=>z.elim .inl λz=> .inr (by rw[z]),λz=>z.elim .inl λz=> .inr (congrArg Prod.snd z)⟩
  ·intro e he
   rcases Kk.mp he with h | h
   ·obtain⟨l',hl⟩:=g.key e h
    rcases Kk.mp hl with h | h
    ·exact⟨l',KY _ h⟩
    ·rcases K2.mp h with h | h
     ·rw[show e.1=x from congrArg Prod.fst h];exact⟨_,K1 _ K8⟩
     ·exact⟨l',K1 _ (K9 _ h)⟩
   ·rw[K7.mp h];exact⟨_,K1 _ K8⟩
def qR (h:Nat)(p:Rn):List Ju:=(List.range h).map (cQ p.1 p.2)
def rW (i:Nat)(xs:List Ju)(G:Gp):Gp:=xs.foldl (λG x=>lO G x i) G
def xi (h:Nat):Nat->List Rn->Gp->Gp
 | _,[],G=>G
 | i,p :: L,G=>xi h (i+1) L (rW i (qR h p) G)
def RK (h:Nat):Nat->List Rn->List (Ju×Nat)
 | _,[]=> []
 | i,p :: L=>(qR h p).map (λx=>(x,i))++RK h (i+1) L
theorem GI.rW {i:Nat}:∀{xs:List Ju} {E:List (Ju×Nat)} {G:Gp},GI E G->(∀x∈xs,pl x=true)->GI (E++xs.map λx=>(x,i)) (rW i xs G)
 | [],E,G,g,_=>by simpa [K32.rW] using g
 | x :: xs,E,G,g,h=>by
  have:=GI.rW (i:=i) (g.add (h x K8) i) λy hy=>h y (K9 _ hy)
  rw[Xj] at this
  exact this
theorem RL {h:Nat}{p:Rn}:∀x∈qR h p,pl x=true:=λx hx=>by
 obtain⟨k,_,rfl⟩:=Ky.mp hx
 exact oT _ _ _
theorem GI.grp {h:Nat}:∀{L:List Rn} {i:Nat} {E:List (Ju×Nat)} {G:Gp},GI E G->GI (E++RK h i L) (xi h i L G)
 | [],i,E,G,g=>by simpa [RK,xi] using g
 | p :: L,i,E,G,g=>by
  have:=GI.grp (L:=L) (i:=i+1) (h:=h) (g.rW (i:=i) (RL (h:=h) (p:=p)))
  rw[Xj] at this
  exact this
theorem RM:GI [] []:=⟨by simp,(λp hp=>by cases hp),(λp hp=>by cases hp),(λp hp=>by cases hp),(λp hp=>by cases hp)⟩
theorem HU {h:Nat}{x:Ju}{j:Nat}:∀{L:List Rn} {i:Nat},(x,j)∈RK h i L↔∃m p,L[m]? =some p/\j=i+m/\∃k,k < h/\x=cQ p.1 p.2 k
 | [],i=>by simp[RK]
 | p :: L,i=>by
  rw[RK,Kk,HU (L:=L) (i:=i+1)]
  constructor
  ·rintro(z | ⟨m,q,h1,h2,h3⟩)
   ·obtain⟨y,hy,e⟩:=Ky.mp z
    obtain⟨k,hk,rfl⟩:=Ky.mp hy
    exact⟨0,p,rfl,(congrArg Prod.snd e).symm,k,X2.mp hk,(congrArg Prod.fst e).symm⟩
   ·exact⟨m+1,q,by simpa using h1,by omega,h3⟩
  ·rintro⟨m,q,h1,h2,k,hk,rfl⟩
   cases m with
   | zero=>
    have:p=q:=by simpa using h1
    subst this
    refine .inl (Ky.mpr ⟨_,Ky.mpr ⟨k,X2.mpr hk,rfl⟩,?_⟩)
    rw[h2];rfl
   | succ m=>exact .inr ⟨m,q,by simpa using h1,by omega,k,hk,rfl⟩
theorem jY {n:Nat}:∀{xs:List Ju},nests n xs=true↔∀x∈xs,nest n x=true
 | []=>by simp[nests]
 | x :: xs=>by rw[nests,KQ,jY (xs:=xs)];simp
theorem M8 (h:Nat)(W:List Ju)(H:List Nat)(k n:Nat):nest (n+1) (cV h W H k)=true:=by
 unfold cV
 split
 ·rw[nest];exact jY.mpr λx hx=>by obtain⟨o,_,rfl⟩:=Ky.mp hx;cases n <;> rfl
 ·rfl
theorem ze {h n:Nat}:∀{R:List (List Ju)} {H:List Nat},∀x∈rows h R H,nest (n+2) x=true
 | [],H,x,hx=>by cases hx
 | W :: R,H,x,hx=>by
  rw[rows] at hx
  rcases K2.mp hx with rfl | hx
  ·rw[nest];exact jY.mpr λy hy=>by obtain⟨o,_,rfl⟩:=Ky.mp hy;exact M8 _ _ _ _ _
  ·exact ze x hx
theorem oU (vs:List Int)(Ws:List (List Ju))(hand:Nat):fM (cQ vs Ws hand)=true:=by
 unfold cQ
 rw[fM]
 refine jY.mpr λx hx=> ?_
 rcases K2.mp hx with rfl | hx
 ·rfl
 rcases K2.mp hx with rfl | hx
 ·rw[nest];refine jY.mpr λy hy=> ?_
  obtain⟨o,_,rfl⟩:=Ky.mp hy
  unfold cP
  split <;> rfl
 ·rw[K7.mp hx,nest]
  exact jY.mpr λy hy=>ze y (Uw.mp hy)
theorem zf {vs vs':List Int}{Ws Xo:List (List Ju)}{k k':Nat}(e:cQ vs Ws k=cQ vs' Xo k'):k=k':=by
 unfold cQ at e
 injection e with e
 injection e with e _
 injection e with e
 omega
theorem uB {i:Nat}:∀{xs:List Ju} {G:Gp} {b:Nat},zd G b->(∀x∈xs,fM x=true)->zd (rW i xs G) (b+xs.length)
 | [],G,b,g,_=>g
 | x :: xs,G,b,g,h=>by
  have:=uB (i:=i) (g.add (h x K8) i) λy hy=>h y (K9 _ hy)
  rw[Kv,show b+(xs.length+1)=b+1+xs.length by omega]
  exact this
theorem qS {h:Nat}{p:Rn}:∀x∈qR h p,fM x=true:=λx hx=>by
 obtain⟨k,_,rfl⟩:=Ky.mp hx
 exact oU _ _ _
theorem BS (h:Nat)(p:Rn):(qR h p).length=h:=by unfold qR;rw[K4,X9]
theorem HV {h:Nat}:∀{L:List Rn} {i:Nat} {G:Gp} {b:Nat},zd G b->zd (xi h i L G) (b+L.length*h)
 | [],i,G,b,g=>by simpa [xi] using g
 | p :: L,i,G,b,g=>by
  have:=HV (L:=L) (i:=i+1) (h:=h) (uB (i:=i) g (qS (h:=h) (p:=p)))
  rw[BS] at this
  rw[Kv,UX,show b+(L.length*h+h)=b+h+L.length*h by omega]
  exact this
def vw (L:List Rn)(i k:Nat):Ju:=cQ (L.getD i ([],[])).1 (L.getD i ([],[])).2 k
structure O6 (n h:Nat)(vw:Nat->Nat->Ju)(G:Gp):Prop where
 g:∀p∈G,∃k,k < h/\∀i,i∈p.2↔i < n/\vw i k=p.1
 ne:∀p∈G,p.2≠[]
 get:∀i k,i < n->k < h->∃l,jp (aN G) (vw i k)=some (.list (l.map nat))/\(vw i k,l)∈G
 ok:zd G 1000
 hand:∀i j k k',vw i k=vw j k'->k=k'
theorem O6.mem_of {n h:Nat}{vw:Nat->Nat->Ju}{G:Gp}(g:O6 n h vw G){a k:Nat}{l:List Nat}(hl:(vw a k,l)∈G)(b:Nat):b∈l↔b < n/\vw b k=vw a k:=by
 obtain⟨k',hk',hm⟩:=g.g _ hl
 obtain⟨i0,hi0⟩:=List.exists_mem_of_ne_nil _ (g.ne _ hl)
 have:k'=k:=g.hand _ _ _ _ ((hm i0).mp hi0).2
 subst this
 exact hm b
theorem E4 {x:Ju}(hx:pl x=true):∀{G:Gp},(∀p∈G,pl p.1=true)->(∃l,(x,l)∈G)->∃l,jp (aN G) x=some (.list (l.map nat))/\(x,l)∈G
 | [],_,⟨l,h⟩=>by cases h
 | p :: r,hp,⟨l,h⟩=>by
  have h1:=hp p K8
  by_cases e:PyData.eqv p.1 x=true
  ·have e':=(mG h1 hx).mp e
   refine⟨p.2,?_,by rw[←e'];exact K8⟩
   show(List.find? _ ((p.1,PyData.list (p.2.map nat)) :: aN r)).map _=_
   rw[XW,e];rfl
  ·have:(x,l)∈r:=by
    rcases K2.mp h with h | h
    ·exact absurd ((mG h1 hx).mpr (by rw[←h])) e
    ·exact h
   obtain⟨l',h3,h4⟩:=E4 hx (G:=r) (λq hq=>hp q (K9 _ hq)) ⟨l,this⟩
   refine⟨l',?_,K9 _ h4⟩
   show(List.find? _ ((p.1,PyData.list (p.2.map nat)) :: aN r)).map _=_
   rw[XW,Bool.eq_false_iff.mpr e];exact h3
theorem M9 {h:Nat}(L:List Rn)(hb:L.length*h<=1000):O6 L.length h (vw L) (xi h 0 L []):=by
 have gi:=GI.grp (L:=L) (i:=0) (h:=h) RM
 rw[Y4] at gi
 have ok:zd (xi h 0 L []) 1000:=(HV (L:=L) (i:=0) (h:=h) (G:=[]) (b:=0) ⟨(λp hp=>by cases hp),by simp⟩).mono (by omega)
 have ev:∀{x:Ju} {j:Nat},(x,j)∈RK h 0 L↔j < L.length/\∃k,k < h/\x=vw L j k:=by
  intro x j
  rw[HU]
  constructor
  ·rintro⟨m,p,h1,h2,k,hk,rfl⟩
   obtain rfl:j=m:=by omega
   obtain⟨hm,e⟩:=X5.mp h1
   refine⟨hm,k,hk,?_⟩
   unfold vw
   rw[KW,h1];rfl
  ·rintro⟨hj,k,hk,rfl⟩
   refine⟨j,L[j],K5 hj,by omega,k,hk,?_⟩
   unfold vw
   rw[KW,K5 hj];rfl
 refine⟨?_,gi.ne,?_,ok,λi j k k' e=>zf e⟩
 ·intro p hp
  obtain⟨i0,hi0⟩:=List.exists_mem_of_ne_nil _ (gi.ne p hp)
  obtain⟨h1,k,hk,e⟩:=ev.mp ((gi.mem p hp i0).mp hi0)
  refine⟨k,hk,λi=> ?_⟩
  rw[gi.mem p hp i,ev]
  constructor
  ·rintro⟨h2,k',hk',e'⟩
   have:k=k':=zf (e.symm.trans e')
   subst this
   exact⟨h2,e'.symm⟩
  ·rintro⟨h2,e'⟩;exact⟨h2,k,hk,e'.symm⟩
 ·intro i k hi hk
  exact E4 (oT _ _ _) gi.p (gi.key (vw L i k,i) (ev.mpr ⟨hi,k,hk,rfl⟩))
def RN (h:Nat)(L:List Rn):Prop:=∀p∈L,uz h 12 p.1 p.2
theorem M_ {h:Nat}{p:Rn}{L:List Rn}(r:RN h (p :: L)):RN h L:=λq hq=>r q (K9 _ hq)
theorem qT {h b:Nat}{p:Rn}(w:uz h b p.1 p.2):bL (gy p)=true:=oy w
theorem GU {h:Nat}{p:Rn}(hh:h<=4)(w:uz h 12 p.1 p.2):eH [.int (h:Int),gy p]=ah (true,.list (qR h p)):=by
 have hc:=jX (fe:=mi) (cap:=[fA (gy p)]) ((List.range h).map λ(i:Nat)=>PyData.int (i:Int))
  (λd=>match d with | .int k=>(.fr [],cQ p.1 p.2 k.toNat) | _=>(.fr [],.none)) (λd hd=>by
   obtain⟨k,hk,rfl⟩:=Ky.mp hd
   have hk:=X2.mp hk
   have e:=w.view hh hk
   simp(disch:=omega) only[mi,rn,reduceIte,gy,e,dZ (oy w),dZ (qO p.1 p.2 k),K0])
 have e1:(((List.range h).map λ(i:Nat)=>PyData.int (i:Int)).map λd=>match d with | .int k=>(Kd.fr [],cQ p.1 p.2 k.toNat) | _=>(Kd.fr [],PyData.none))=(List.range h).map λk=>(Kd.fr [],cQ p.1 p.2 k):=by
  rw[X7];refine U5 λk _=> ?_;simp only[Function.comp,K0]
 rw[e1] at hc
 have k1:=gM (List.range h) λk=>cQ p.1 p.2 k
 have e2:((List.range h).map λk=>(Kd.fr [],cQ p.1 p.2 k)).map Prod.snd=qR h p:=by rw[X7];rfl
 have hle:h<=100000:=by omega
 simp(disch:=omega) only[eH,pL,rn,reduceIte,cI,hc,k1,e2,hle,K0]
theorem qU {α:Type}{fe:EF}{cap:bD}(f:α->Ju)(g:α->Kd×Ju):∀(l:List α),(∀a∈l,fe (fA (f a) :: cap)=ah (g a))->fE gm fe cap (l.map f)=some (l.map g)
 | [],_=>rfl
 | a :: l,h=>by
  have h1:=h a K8
  rw[KZ,fE]
  simp only[gm,ah] at h1⊢
  rw[h1]
  simp only
  rw[qU f g l λb hb=>h b (K9 _ hb)]
  rfl
def oB (h:Nat)(L:List Rn):List Ju:=L.map λp=> .list (qR h p)
theorem E5 {h:Nat}{L:List Rn}(hh:h<=4)(r:RN h L)(hl:L.length<=1000):bN [.int (h:Int),.list (L.map gy)]=ah (true,.list (oB h L)):=by
 have hc:=qU (fe:=iP) (cap:=[fN h]) gy (λp=>(Kd.fr [],PyData.list (qR h p))) L (λp hp=>by
  have w:=r p hp
  have e:=GU hh w
  simp(disch:=omega) only[iP,rn,reduceIte,e,dZ (qT w)])
 have k1:=gM L λp=>PyData.list (qR h p)
 have e2:(L.map λp=>(Kd.fr [],PyData.list (qR h p))).map Prod.snd=oB h L:=by rw[X7];rfl
 have hle:L.length<=100000:=by omega
 simp(disch:=omega) only[bN,kc,rn,reduceIte,cI,hc,k1,e2,hle]
theorem Na {Γ:bD}{i j n b:Nat}{o:Bool}{fk:EF}{kd:Kd}{x:Ju}{G:Gp}(h1:Γ[i]? =some (tD (aN G)))(h2:Γ[j]? =some (some (o,.int (n:Int))))(h3:fk Γ=ah (kd,x))(hx:fM x=true)(g:zd G b)(hb:b<=1000) :
  IG i fk j Γ=ah (.nx (Γ.set i (tD (aN (lO G x n))))):=by
 have hs:(1000:Nat) < sizeLine:=by decide
 unfold IG
 rw[h1]
 simp only[h3,ay,h2]
 rw[J5 ⟨hx,g.jv,by rw[M7];have:=g.l;omega⟩,HS G x n λp hp=>by have:=(g.k p hp).2;omega]
theorem HW (d0 d3:Sl)(i:Nat)(o:Bool):∀(xs:List Ju) (G:Gp) (b:Nat) (c4:Sl),(∀x∈xs,fM x=true/\bL x=true)->zd G b->b+xs.length<=1000->∃o_:Sl,bj (cS 4) iQ xs [d0,tD (aN G),some (o,.int (i:Int)),d3,c4]=
  ah (.nx [d0,tD (aN (rW i xs G)),some (o,.int (i:Int)),d3,o_])
 | [],G,b,c4,_,_,_=>⟨c4,rfl⟩
 | x :: xs,G,b,c4,hx,g,hb=>by
  obtain⟨k1,k2⟩:=hx x K8
  rw[Kv] at hb
  obtain⟨o_,ih⟩:=HW d0 d3 i o xs (lO G x i) (b+1) (tA x) (λy hy=>hx y (K9 _ hy)) (g.add k1 i) (by omega)
  refine⟨o_,?_⟩
  have hs:cS 4 (eR .base x) x [d0,tD (aN G),some (o,.int (i:Int)),d3,c4]=some [d0,tD (aN G),some (o,.int (i:Int)),d3,tA x]:=by rw[dZ k2];rfl
  have e4:eV 4 [d0,tD (aN G),some (o,.int (i:Int)),d3,tA x]=ah (.fr [],x):=by
   show ah (eR _ x,x)=_
   rw[dZ k2]
  have hb2:iQ [d0,tD (aN G),some (o,.int (i:Int)),d3,tA x]=ah (.nx [d0,tD (aN (lO G x i)),some (o,.int (i:Int)),d3,tA x]) :=
   Na (i:=1) (j:=2) (Γ:=[d0,tD (aN G),some (o,.int (i:Int)),d3,tA x]) rfl rfl e4 k1 g (by omega)
  rw[bj,hs,cw,ay,hb2,ay]
  exact ih
theorem RO {h:Nat}{p:Rn}:∀x∈qR h p,fM x=true/\bL x=true:=λx hx=>⟨qS x hx,by
 obtain⟨k,_,rfl⟩:=Ky.mp hx
 exact qO _ _ _⟩
theorem HX (d0:Sl)(h:Nat):∀(L:List Rn) (i:Nat) (G:Gp) (b:Nat) (c2 c3 c4:Sl),zd G b->b+L.length*h<=1000->∃c2' VS o_:Sl,bj (mI [2,3]) dL (gn i (oB h L)) [d0,tD (aN G),c2,c3,c4]=
  ah (.nx [d0,tD (aN (xi h i L G)),c2',VS,o_])
 | [],i,G,b,c2,c3,c4,_,_=>⟨c2,c3,c4,rfl⟩
 | p :: L,i,G,b,c2,c3,c4,g,hb=>by
  rw[Kv,UX] at hb
  have vl:=BS h p
  obtain⟨o_,e⟩:=HW d0 (fL (qR h p)) i true (qR h p) G b c4 RO g (by omega)
  have g2:=uB (i:=i) g (qS (h:=h) (p:=p))
  obtain⟨VT,RP,Nb,ih⟩:=HX d0 h L (i+1) (rW i (qR h p) G) (b+(qR h p).length) (tN i) (fL (qR h p)) o_ g2 (by omega)
  refine⟨VT,RP,Nb,?_⟩
  show bj (mI [2,3]) dL (.tuple [.int (i:Int),.list (qR h p)] :: gn (i+1) (oB h L)) _=_
  have hs:mI [2,3] (eR .base (.tuple [.int (i:Int),.list (qR h p)])) (.tuple [.int (i:Int),.list (qR h p)]) [d0,tD (aN G),c2,c3,c4]=some [d0,tD (aN G),tN i,fL (qR h p),c4]:=rfl
  have hb2:dL [d0,tD (aN G),tN i,fL (qR h p),c4]=ah (.nx [d0,tD (aN (rW i (qR h p) G)),tN i,fL (qR h p),o_]):=e
  rw[bj,hs,cw,ay,hb2,ay]
  exact ih
theorem J_ {h:Nat}{L:List Rn}(hb:L.length*h<=1000):cp [.list (oB h L)]=ah (true,.dict (aN (xi h 0 L []))):=by
 obtain⟨c2,c3,c4,e⟩:=HX (fL (oB h L)) h L 0 [] 0 none none none ⟨(λp hp=>by cases hp),by simp⟩ (by omega)
 refine iG ?_
 unfold kh
 rw[ax (show(aC 1 uM) (eD 5 [.list (oB h L)])=ah (.nx [fL (oB h L),tD (aN []),none,none,none]) from rfl)]
 rw[ax (show(bU (ma (eV 0)) (mI [2,3]) dL) [fL (oB h L),tD (aN []),none,none,none]=_ from e)]
 rfl
theorem WB (d0 d1:Sl){h:Nat}{p:Rn}(hh:h<=4)(w:uz h 12 p.1 p.2)(i:Nat):∀(ks:List Nat) (G:Gp) (b:Nat) (c5:Sl),(∀k∈ks,k < h)->zd G b->b+ks.length<=1000->∃qX:Sl,bj (cS 5) gN (ks.map λ(k:Nat)=>PyData.int (k:Int)) [d0,d1,tD (aN G),tN i,tA (gy p),c5]=
  ah (.nx [d0,d1,tD (aN (rW i (ks.map (cQ p.1 p.2)) G)),tN i,tA (gy p),qX])
 | [],G,b,c5,_,_,_=>⟨c5,rfl⟩
 | k :: ks,G,b,c5,hk,g,hb=>by
  rw[Kv] at hb
  have hk1:=hk k K8
  have e:=GK w hh hk1
  obtain⟨qX,ih⟩:=WB d0 d1 hh w i ks (lO G (cQ p.1 p.2 k) i) (b+1) (tN k) (λy hy=>hk y (K9 _ hy)) (g.add (oU _ _ _) i) (by omega)
  refine⟨qX,?_⟩
  have hf:aG cK [(eV 4),(eV 5)] [d0,d1,tD (aN G),tN i,tA (gy p),tN k]=ah (.fr [],cQ p.1 p.2 k):=by
   simp(disch:=omega) only[rn,reduceIte,gy,e,dZ (oy w),dZ (qO p.1 p.2 k)]
  have hb2:gN [d0,d1,tD (aN G),tN i,tA (gy p),tN k]=ah (.nx [d0,d1,tD (aN (lO G (cQ p.1 p.2 k) i)),tN i,tA (gy p),tN k]) :=
   Na (i:=2) (j:=3) (Γ:=[d0,d1,tD (aN G),tN i,tA (gy p),tN k]) rfl rfl hf (oU _ _ _) g (by omega)
  show bj (cS 5) gN (.int (k:Int) :: ks.map λ(k:Nat)=>PyData.int (k:Int)) _=_
  rw[bj,show cS 5 (eR .base (.int (k:Int))) (.int (k:Int)) [d0,d1,tD (aN G),tN i,tA (gy p),c5]=some [d0,d1,tD (aN G),tN i,tA (gy p),tN k] from rfl,cw,ay,hb2,ay]
  exact ih
theorem WC (d1:Sl){h:Nat}(hh:h<=4):∀(L:List Rn) (i:Nat) (G:Gp) (b:Nat) (c3 c4 c5:Sl),RN h L->zd G b->b+L.length*h<=1000->∃VS o_ qX:Sl,bj (mI [3,4]) db (gn i (L.map gy)) [fN h,d1,tD (aN G),c3,c4,c5]=
  ah (.nx [fN h,d1,tD (aN (xi h i L G)),VS,o_,qX])
 | [],i,G,b,c3,c4,c5,_,_,_=>⟨c3,c4,c5,rfl⟩
 | p :: L,i,G,b,c3,c4,c5,r,g,hb=>by
  rw[Kv,UX] at hb
  have w:=r p K8
  have vl:=BS h p
  obtain⟨qX,e⟩:=WB (fN h) d1 hh w i (List.range h) G b c5 (λk hk=>X2.mp hk) g (by rw[X9];omega)
  have g2:=uB (i:=i) g (qS (h:=h) (p:=p))
  obtain⟨RP,Nb,RQ,ih⟩:=WC d1 hh L (i+1) (rW i (qR h p) G) (b+(qR h p).length) (tN i) (tA (gy p)) qX (M_ r) g2 (by omega)
  refine⟨RP,Nb,RQ,?_⟩
  show bj (mI [3,4]) db (.tuple [.int (i:Int),gy p] :: gn (i+1) (L.map gy)) _=_
  have nt:bL (.tuple [.int (i:Int),gy p])=true:=by rw[eG,aq,aq,qT w];rfl
  have hs:mI [3,4] (eR .base (.tuple [.int (i:Int),gy p])) (.tuple [.int (i:Int),gy p]) [fN h,d1,tD (aN G),c3,c4,c5]=some [fN h,d1,tD (aN G),tN i,tA (gy p),c5]:=by
   rw[dZ nt]
   show some (kP (kP _ 3 (eR (.fr []) (.int (i:Int))) (.int (i:Int))) 4 (eR (.fr []) (gy p)) (gy p))=_
   rw[uy,dZ (qT w)];rfl
  have hb2:db [fN h,d1,tD (aN G),tN i,tA (gy p),c5]=ah (.nx [fN h,d1,tD (aN (rW i (qR h p) G)),tN i,tA (gy p),qX]):=by
   unfold db
   simp(disch:=omega) only[rn,reduceIte,K0]
   exact e
  rw[bj,hs,cw,ay,hb2,ay]
  exact ih
theorem BU {h:Nat}{L:List Rn}(hh:h<=4)(r:RN h L)(hb:L.length*h<=1000):ca [.int (h:Int),.list (L.map gy)]=ah (true,.dict (aN (xi h 0 L []))):=by
 obtain⟨c3,c4,c5,e⟩:=WC (fL (L.map gy)) hh L 0 [] 0 none none none r ⟨(λp hp=>by cases hp),by simp⟩ (by omega)
 refine iG ?_
 unfold kU
 rw[ax (show(aC 2 uM) (eD 6 [.int (h:Int),.list (L.map gy)])=ah (.nx [fN h,fL (L.map gy),tD (aN []),none,none,none]) from rfl)]
 rw[ax (show(bU (ma (eV 1)) (mI [3,4]) db) [fN h,fL (L.map gy),tD (aN []),none,none,none]=_ from e)]
 rfl
inductive Cn (n h:Nat)(vw:Nat->Nat->Ju):Nat->Nat->Prop
 | rel {a b k:Nat}:a < n->b < n->k < h->vw a k=vw b k->Cn n h vw a b
 | refl (a:Nat):Cn n h vw a a
 | symm {a b:Nat}:Cn n h vw a b->Cn n h vw b a
 | trans {a b c:Nat}:Cn n h vw a b->Cn n h vw b c->Cn n h vw a c
theorem Cn.closed {n h:Nat}{vw:Nat->Nat->Ju}(S:Nat->Prop)(hS:∀a b k,a < n->b < n->k < h->vw a k=vw b k->S a->S b){a b:Nat}(c:Cn n h vw a b):S a↔S b:=by
 induction c with
 | rel h1 h2 h3 h4=>exact⟨hS _ _ _ h1 h2 h3 h4,hS _ _ _ h2 h1 h3 h4.symm⟩
 | refl a=>exact Iff.rfl
 | symm _ ih=>exact ih.symm
 | trans _ _ i1 i2=>exact i1.trans i2
theorem Cn.const {n h:Nat}{vw:Nat->Nat->Ju}(f:Nat->Nat)(hf:∀a b k,a < n->b < n->k < h->vw a k=vw b k->f a=f b){a b:Nat}(c:Cn n h vw a b):f a=f b:=by
 induction c with
 | rel h1 h2 h3 h4=>exact hf _ _ _ h1 h2 h3 h4
 | refl a=>rfl
 | symm _ ih=>exact ih.symm
 | trans _ _ i1 i2=>exact i1.trans i2
def kN (n:Nat)(f:Nat->Nat):List Ju:=(List.range n).map λi=> .int ((f i:Nat):Int)
def upd (f:Nat->Nat)(i m:Nat):Nat->Nat:=λj=>if j=i then m else f j
theorem O7 {n i:Nat}(f:Nat->Nat)(m:Nat):(kN n f).set i (.int (m:Int))=kN n (upd f i m):=by
 unfold kN upd
 refine Yv (by simp) λj h1 h2=> ?_
 rw[List.getElem_set]
 simp only[Yz,List.getElem_range]
 by_cases e:i=j
 ·rw[J5 e,J5 e.symm]
 ·rw[J6 e,J6 (λz=>e z.symm)]
theorem BV {n i:Nat}(f:Nat->Nat)(h:i < n):jE (kN n f) (i:Int)=some (.int ((f i:Nat):Int)):=cW (by unfold kN;rw[Kj,U4 h];rfl)
theorem O8 (n:Nat)(f:Nat->Nat):(kN n f).length=n:=by unfold kN;rw[K4,X9]
theorem O9 (n:Nat)(f:Nat->Nat):aq (kN n f)=true:=aP _ (λ_=>rfl) _
def Q2 (n m:Nat)(l:List Nat)(f:Nat->Nat)(b:Bool)(f':Nat->Nat)(b':Bool):Prop :=
 (∀i,f' i=f i∨(f' i=m/\m < f i/\i∈l))/\(b'=true->b=true∨∃i,i < n/\f' i < f i)/\(b'=false->b=false/\f'=f/\∀i∈l,f i<=m)
theorem GV (d0 d1 d4 d5 d8 d9:Sl)(n m:Nat):∀(l:List Nat) (f:Nat->Nat) (b:Bool) (c7:Sl),(∀i∈l,i < n)->∃(f':Nat->Nat) (b':Bool) (gR:Sl),bj (cS 7) cn (l.map nat) [d0,d1,tL (kN n f),tB b,d4,d5,tN m,c7,d8,d9]=
  ah (.nx [d0,d1,tL (kN n f'),tB b',d4,d5,tN m,gR,d8,d9])/\Q2 n m l f b f' b'
 | [],f,b,c7,_=>⟨f,b,c7,rfl,λi=> .inl rfl,λh=> .inl h,λh=>⟨h,rfl,λi hi=>by cases hi⟩⟩
 | i :: l,f,b,c7,hl=>by
  have hi:=hl i K8
  have ea:=BV f hi
  have nn:=O9 n f
  have el:=O8 n f
  have ei:=BO hi
  have es:=O7 (n:=n) (i:=i) f m
  by_cases hc:m < f i
  ·obtain⟨f',b',gR,e,q1,q2,q3⟩:=GV d0 d1 d4 d5 d8 d9 n m l (upd f i m) true (tN i) λj hj=>hl j (K9 _ hj)
   have hb2:cn [d0,d1,tL (kN n f),tB b,d4,d5,tN m,tN i,d8,d9]=ah (.nx [d0,d1,tL (kN n (upd f i m)),tB true,d4,d5,tN m,tN i,d8,d9]):=by
    have hd:decide ((m:Int) < ((f i:Nat):Int))=true:=J4 (by omega)
    simp(disch:=omega) only[cn,rn,reduceIte,ea,hd,el,ei,nn,es,Xv]
   have ui:upd f i m i=m:=J5 rfl
   have uj:∀j,j≠i->upd f i m j=f j:=λj hj=>J6 hj
   have fi:f' i=m:=by rcases q1 i with z | z;exact z.trans ui;exact z.1
   refine⟨f',b',gR,?_,?_,?_,?_⟩
   ·show bj (cS 7) cn (.int (i:Int) :: l.map nat) _=_
    rw[bj,show cS 7 (eR .base (.int (i:Int))) (.int (i:Int)) [d0,d1,tL (kN n f),tB b,d4,d5,tN m,c7,d8,d9]=some [d0,d1,tL (kN n f),tB b,d4,d5,tN m,tN i,d8,d9] from rfl,cw,ay,hb2,ay]
    exact e
   ·intro j
    by_cases hj:j=i
    ·subst hj;exact .inr ⟨fi,hc,K8⟩
    ·rcases q1 j with z | z
     ·exact .inl (z.trans (uj j hj))
     ·exact .inr ⟨z.1,by have:=z.2.1;rw[uj j hj] at this;exact this,K9 _ z.2.2⟩
   ·intro _;exact .inr ⟨i,hi,by rw[fi];exact hc⟩
   ·intro z;cases(q3 z).1
  ·obtain⟨f',b',gR,e,q1,q2,q3⟩:=GV d0 d1 d4 d5 d8 d9 n m l f b (tN i) λj hj=>hl j (K9 _ hj)
   have hb2:cn [d0,d1,tL (kN n f),tB b,d4,d5,tN m,tN i,d8,d9]=ah (.nx [d0,d1,tL (kN n f),tB b,d4,d5,tN m,tN i,d8,d9]):=by
    have hd:decide ((m:Int) < ((f i:Nat):Int))=false:=J3 (by omega)
    simp(disch:=omega) only[cn,rn,reduceIte,ea,hd]
   refine⟨f',b',gR,?_,?_,q2,?_⟩
   ·show bj (cS 7) cn (.int (i:Int) :: l.map nat) _=_
    rw[bj,show cS 7 (eR .base (.int (i:Int))) (.int (i:Int)) [d0,d1,tL (kN n f),tB b,d4,d5,tN m,c7,d8,d9]=some [d0,d1,tL (kN n f),tB b,d4,d5,tN m,tN i,d8,d9] from rfl,cw,ay,hb2,ay]
    exact e
   ·intro j
    rcases q1 j with z | z
    ·exact .inl z
    ·exact .inr ⟨z.1,z.2.1,K9 _ z.2.2⟩
   ·intro z
    obtain⟨z1,z2,z3⟩:=q3 z
    refine⟨z1,z2,λj hj=> ?_⟩
    rcases K2.mp hj with rfl | hj
    ·omega
    ·exact z3 j hj
theorem foldl_min:∀(l:List Nat) (a:Nat),∃m:Nat,(l.map λ(x:Nat)=>(x:Int)).foldl (λa b=>if b < a then b else a) (a:Int)=(m:Int)/\(m=a∨m∈l)/\m<=a/\∀x∈l,m<=x
 | [],a=>⟨a,rfl,.inl rfl,Ku _,λx hx=>by cases hx⟩
 | x :: l,a=>by
  rw[KZ,Y7]
  by_cases hc:x < a
  ·rw[J5 (by omega)]
   obtain⟨m,h1,h2,h3,h4⟩:=foldl_min l x
   refine⟨m,h1,?_,by omega,λy hy=> ?_⟩
   ·exact h2.elim (λz=> .inr (z ▸ K8)) λz=> .inr (K9 _ z)
   ·rcases K2.mp hy with rfl | hy
    ·exact h3
    ·exact h4 y hy
  ·rw[J6 (by omega)]
   obtain⟨m,h1,h2,h3,h4⟩:=foldl_min l a
   refine⟨m,h1,?_,h3,λy hy=> ?_⟩
   ·exact h2.elim .inl λz=> .inr (K9 _ z)
   ·rcases K2.mp hy with rfl | hy
    ·omega
    ·exact h4 y hy
theorem E6:∀l:List Nat,(l.map nat).mapM intOf=some (l.map λ(x:Nat)=>(x:Int))
 | []=>rfl
 | x :: l=>by
  rw[KZ,List.mapM_cons,E6 l];rfl
theorem Ka (l:List Nat)(h:l≠[]):∃m:Nat,yQ [.list (l.map nat)]=some (.int (m:Int))/\m∈l/\∀x∈l,m<=x:=by
 cases l with
 | nil=>exact absurd rfl h
 | cons a l=>
  obtain⟨m,h1,h2,h3,h4⟩:=foldl_min l a
  refine⟨m,?_,?_,λx hx=> ?_⟩
  ·rw[yQ,E6]
   show some (PyData.int (zZ ((a:Int) :: l.map λ(x:Nat)=>(x:Int))))=_
   rw[zZ,h1]
  ·rcases h2 with rfl | z
   ·exact K8
   ·exact K9 _ z
  ·rcases K2.mp hx with rfl | hx
   ·exact h3
   ·exact h4 x hx
def PS (n h:Nat)(vw:Nat->Nat->Ju)(f:Nat->Nat):Prop:=∀i,i < n->f i<=i/\Cn n h vw i (f i)
theorem RS (d0 d1 d4 d8 d9:Sl){n h:Nat}{vw:Nat->Nat->Ju}(hn:n<=1000)(l:List Nat)(hne:l≠[])(hl:∀i∈l,i < n)(hcn:∀i∈l,∀j∈l,Cn n h vw i j)(hll:l.length<=1000)(f:Nat->Nat)(ps:PS n h vw f)(b:Bool)(c6 c7:Sl):∃(f':Nat->Nat) (b':Bool) (lP gR:Sl),fQ [d0,d1,tL (kN n f),tB b,d4,fL (l.map nat),c6,c7,d8,d9]=
  ah (.nx [d0,d1,tL (kN n f'),tB b',d4,fL (l.map nat),lP,gR,d8,d9])/\PS n h vw f'/\(∀i,f' i<=f i)/\(b'=true->b=true∨∃i,i < n/\f' i < f i)/\(b'=false->b=false/\f'=f/\∀i∈l,∀j∈l,f i=f j):=by
 have hc:=qU (fe:=il) (cap:=[fL (kN n f)]) nat (λi=>(Kd.fr [],nat (f i))) l (λi hi=>by
  have ea:=BV f (hl i hi)
  simp(disch:=omega) only[il,rn,reduceIte,nat,ea])
 have k1:=gM l λi=>nat (f i)
 have e2:(l.map λi=>(Kd.fr [],nat (f i))).map Prod.snd=(l.map f).map nat:=by rw[X7,X7];rfl
 obtain⟨m,hm1,hm2,Xp⟩:=Ka (l.map f) (by simpa using hne)
 have hle:l.length<=100000:=by omega
 have s1:(aC 6 (lq yQ [(cI (pk (eV 5)) [2] gm il)])) [d0,d1,tL (kN n f),tB b,d4,fL (l.map nat),c6,c7,d8,d9]=ah (.nx [d0,d1,tL (kN n f),tB b,d4,fL (l.map nat),tN m,c7,d8,d9]):=by
  simp(disch:=omega) only[rn,reduceIte,cI,hc,k1,e2,hle,hm1]
 obtain⟨f',b',gR,e,q1,q2,q3⟩:=GV d0 d1 d4 (fL (l.map nat)) d8 d9 n m l f b c7 hl
 obtain⟨j,hj,rfl⟩:=Ky.mp hm2
 refine⟨f',b',tI ((f j:Nat):Int),gR,?_,?_,?_,q2,?_⟩
 ·unfold fQ
  rw[ax s1];exact e
 ·intro i hi
  obtain⟨p1,p2⟩:=ps i hi
  rcases q1 i with z | ⟨z1,z2,z3⟩
  ·rw[z];exact⟨p1,p2⟩
  ·rw[z1];exact⟨by omega,(hcn i z3 j hj).trans (ps j (hl j hj)).2⟩
 ·intro i
  rcases q1 i with z | z
  ·omega
  ·omega
 ·intro z
  obtain⟨z1,z2,z3⟩:=q3 z
  have ea:∀i∈l,f i=f j:=λi hi=>YX (z3 i hi) (Xp _ (Ky.mpr ⟨i,hi,rfl⟩))
  exact⟨z1,z2,λi hi i' hi'=>(ea i hi).trans (ea i' hi').symm⟩
def RT (G:Gp):List Ju:=(aN G).map λp=> .tuple [p.1,p.2]
theorem Nc (d0 d1 d8 d9:Sl){n h:Nat}{vw:Nat->Nat->Ju}(hn:n<=1000):∀(G:Gp),(∀p∈G,p.2≠[]/\(∀i∈p.2,i < n)/\(∀i∈p.2,∀j∈p.2,Cn n h vw i j)/\p.2.length<=1000)->∀(f:Nat->Nat) (b:Bool) (c4 c5 c6 c7:Sl),PS n h vw f->
  ∃(f':Nat->Nat) (b':Bool) (o_ qX lP gR:Sl),bj (mI [4,5]) fQ (RT G) [d0,d1,tL (kN n f),tB b,c4,c5,c6,c7,d8,d9]=
  ah (.nx [d0,d1,tL (kN n f'),tB b',o_,qX,lP,gR,d8,d9])/\PS n h vw f'/\(∀i,f' i<=f i)/\(b'=true->b=true∨∃i,i < n/\f' i < f i)/\(b'=false->b=false/\f'=f/\∀p∈G,∀i∈p.2,∀j∈p.2,f i=f j)
 | [],_,f,b,c4,c5,c6,c7,ps=>⟨f,b,c4,c5,c6,c7,rfl,ps,λi=>Ku _,λz=> .inl z,λz=>⟨z,rfl,λp hp=>by cases hp⟩⟩
 | p :: G,hG,f,b,c4,c5,c6,c7,ps=>by
  obtain⟨a1,a2,a3,a4⟩:=hG p K8
  have hs:∃o_:Sl,mI [4,5] (eR .base (.tuple [p.1,.list (p.2.map nat)])) (.tuple [p.1,.list (p.2.map nat)]) [d0,d1,tL (kN n f),tB b,c4,c5,c6,c7,d8,d9]=some [d0,d1,tL (kN n f),tB b,o_,fL (p.2.map nat),c6,c7,d8,d9]:=by
   have nt:bL (.tuple [p.1,.list (p.2.map nat)])=false:=by
    rw[eG,aq,aq,qm,Y9,Bool.and_false]
   rw[C3 nt]
   show∃o_:Sl,some (kP (kP _ 4 (eR .base p.1) p.1) 5 .base (.list (p.2.map nat)))=_
   cases e:bL p.1 with
   | true=>rw[dZ e];exact⟨_,rfl⟩
   | false=>rw[C3 e];exact⟨_,rfl⟩
  obtain⟨o_,hs⟩:=hs
  obtain⟨f1,b1,lP,gR,e1,p1,p2,p3,p4⟩:=RS d0 d1 o_ d8 d9 hn p.2 a1 a2 a3 a4 f ps b c6 c7
  obtain⟨f',b',Nb,RQ,GQ,GR,e,q1,q2,q3,q4⟩:=Nc d0 d1 d8 d9 hn G (λq hq=>hG q (K9 _ hq)) f1 b1 o_ (fL (p.2.map nat)) lP gR p1
  refine⟨f',b',Nb,RQ,GQ,GR,?_,q1,λi=>Kq (q2 i) (p2 i),?_,?_⟩
  ·show bj (mI [4,5]) fQ (.tuple [p.1,.list (p.2.map nat)] :: RT G) _=_
   rw[bj,hs,cw,ay,e1,ay]
   exact e
  ·intro z
   rcases q3 z with z | ⟨i,z1,z2⟩
   ·rcases p3 z with z | ⟨i,z1,z2⟩
    ·exact .inl z
    ·exact .inr ⟨i,z1,X0 (q2 i) z2⟩
   ·exact .inr ⟨i,z1,X4 z2 (p2 i)⟩
  ·intro z
   obtain⟨z1,z2,z3⟩:=q4 z
   obtain⟨y1,y2,y3⟩:=p4 z1
   subst z2
   refine⟨y1,y2,λq hq=> ?_⟩
   rcases K2.mp hq with rfl | hq
   ·exact y3
   ·rw[←y2];exact z3 q hq
def wt (n:Nat)(f:Nat->Nat):Nat:=((List.range n).map f).sum
theorem qV (n:Nat)(f:Nat->Nat):wt (n+1) f=wt n f+f n:=by
 unfold wt;rw[Y8,X6,List.sum_append];simp
theorem PQ {f g:Nat->Nat}(h:∀i,f i<=g i):∀n,wt n f<=wt n g
 | 0=>Ku _
 | n+1=>by rw[qV,qV];have:=PQ h n;have:=h n;omega
theorem PR {f g:Nat->Nat}(h:∀i,f i<=g i){i:Nat}(hi:f i < g i):∀{n},i < n->wt n f < wt n g
 | n+1,hn=>by
  rw[qV,qV]
  by_cases e:i=n
  ·subst e;have:=PQ h i;omega
  ·have:=PR h hi (n:=n) (by omega);have:=h n;omega
theorem E7 {f:Nat->Nat}{b:Nat}:∀(n:Nat),(∀i,i < n->f i<=b)->wt n f<=n*b
 | 0,_=>by simp[wt]
 | n+1,h=>by
  rw[qV,UX]
  have:=E7 n λi hi=>h i (by omega)
  have:=h n (by omega)
  omega
theorem RU (d0 d8 d9:Sl){n h:Nat}{vw:Nat->Nat->Ju}(hn:n<=1000){G:Gp}(g:zd G 1000)(hG:∀p∈G,p.2≠[]/\(∀i∈p.2,i < n)/\(∀i∈p.2,∀j∈p.2,Cn n h vw i j)/\p.2.length<=1000):∀(w fuel:Nat) (f:Nat->Nat) (c4 c5 c6 c7:Sl),PS n h vw f->wt n f < w->w+1<=fuel->
  ∃(f':Nat->Nat) (o_ qX lP gR:Sl),gu fuel j9 fR [d0,fD (aN G),tL (kN n f),tB true,c4,c5,c6,c7,d8,d9]=
  ah (.nx [d0,fD (aN G),tL (kN n f'),tB false,o_,qX,lP,gR,d8,d9])/\PS n h vw f'/\∀p∈G,∀i∈p.2,∀j∈p.2,f' i=f' j:=by
 intro w
 induction w with
 | zero=>
  intro fuel f c4 c5 c6 c7 ps hw hf
  omega
 | succ w ih=>
  intro fuel f c4 c5 c6 c7 ps hw hf
  obtain⟨fuel,rfl⟩:∃k,fuel=k+2:=⟨fuel - 2,by omega⟩
  obtain⟨f',b',o_,qX,lP,gR,e,q1,q2,q3,q4⟩:=Nc d0 (fD (aN G)) d8 d9 hn G hG f false c4 c5 c6 c7 ps
  have hb:fR [d0,fD (aN G),tL (kN n f),tB true,c4,c5,c6,c7,d8,d9]=ah (.nx [d0,fD (aN G),tL (kN n f'),tB b',o_,qX,lP,gR,d8,d9]):=by
   unfold fR
   rw[ax (show(aC 3 (eC (.bool false))) _=ah (.nx [d0,fD (aN G),tL (kN n f),tB false,c4,c5,c6,c7,d8,d9]) from rfl)]
   have hi:zY (eV 1) [d0,fD (aN G),tL (kN n f),tB false,c4,c5,c6,c7,d8,d9]=ah (.base,RT G):=by
    show IH .base (.dict (aN G))=_
    rw[IH,J5 g.jv];rfl
   unfold bU
   rw[hi,ay];exact e
  cases b' with
  | true=>
   rcases q3 rfl with z | ⟨i,z1,z2⟩
   ·cases z
   ·have hlt:=PR q2 z2 z1
    obtain⟨f'',d4,d5,d6,d7,e',r1,r2⟩:=ih (fuel+1) f' o_ qX lP gR q1 (by omega) (by omega)
    exact⟨f'',d4,d5,d6,d7,by rw[oA rfl hb];exact e',r1,r2⟩
  | false=>
   obtain⟨_,rfl,z3⟩:=q4 rfl
   exact⟨f',o_,qX,lP,gR,by rw[oA rfl hb,qQ rfl],q1,z3⟩
theorem rY {α:Type}{ft:TF}{fe:EF}{cap:bD}(f:α->Ju)(p:α->Bool)(g:α->Kd×Ju):∀(l:List α),(∀a∈l,ft (fA (f a) :: cap)=ah (p a))->(∀a∈l,p a=true->fe (fA (f a) :: cap)=ah (g a))->fE ft fe cap (l.map f)=some ((l.filter p).map g)
 | [],_,_=>rfl
 | a :: l,ht,h=>by
  have h0:=ht a K8
  have ih:=rY f p g l (λb hb=>ht b (K9 _ hb)) λb hb=>h b (K9 _ hb)
  rw[KZ,fE]
  cases hp:p a with
  | true=>
   have h1:=h a K8 hp
   rw[hp] at h0
   simp only[ah] at h0 h1⊢
   rw[h0,h1]
   simp only
   rw[ih,List.filter_cons_of_pos hp];rfl
  | false=>
   rw[hp] at h0
   simp only[ah] at h0⊢
   rw[h0]
   simp only
   rw[ih,List.filter_cons_of_neg (by rw[hp];exact K3)]
theorem uC (a b:Nat):((a:Int)==(b:Int))=decide (a=b):=by
 by_cases e:a=b
 ·subst e;simp
 ·rw[J3 e];exact beq_eq_false_iff_ne.mpr λz=>e (by omega)
def lot (n:Nat)(f:Nat->Nat)(a:Nat):List Nat:=(List.range n).filter λj=>decide (f j=a)
def lots (n:Nat)(f:Nat->Nat)(i:Nat):List Ju:=((List.range i).filter λa=>decide (f a=a)).map λa=> .list ((lot n f a).map nat)
theorem Kb (n:Nat)(f:Nat->Nat)(i:Nat):lots n f (i+1)=lots n f i++(if f i=i then [.list ((lot n f i).map nat)] else []):=by
 unfold lots
 rw[Y8,List.filter_append,X6]
 by_cases e:f i=i
 ·rw[J5 e,List.filter_cons_of_pos (by simpa using e)];rfl
 ·rw[J6 e,List.filter_cons_of_neg (by simpa using e)];rfl
theorem E8 (n:Nat)(f:Nat->Nat)(i:Nat):(lots n f i).length<=i:=by
 unfold lots;rw[K4];exact Kq (Xq _ _) (by rw[X9];exact Ku _)
theorem RW (d1 c3 c4 c5 c6 c7:Sl){n:Nat}(hn:n<=1000)(f:Nat->Nat)(hf:∀i,i < n->f i < n):∃jG:Sl,bj (cS 9) dI ((List.range n).map λ(i:Nat)=>PyData.int (i:Int)) [fN n,d1,tL (kN n f),c3,c4,c5,c6,c7,tL [],none]=
  ah (.nx [fN n,d1,tL (kN n f),c3,c4,c5,c6,c7,tL (lots n f n),jG]):=by
 obtain⟨Γ',k1,jG,rfl⟩:=bo (g:=cS 9) (b:=dI) (ds:=(List.range n).map λ(i:Nat)=>PyData.int (i:Int)) (Γ:=[fN n,d1,tL (kN n f),c3,c4,c5,c6,c7,tL [],none])
  (λi Γ=>∃c9:Sl,Γ=[fN n,d1,tL (kN n f),c3,c4,c5,c6,c7,tL (lots n f i),c9]) ⟨none,rfl⟩ (by
  rintro i d Γ hd ⟨c9,rfl⟩
  obtain⟨rfl,hi⟩:=cy hd
  have ea:=BV f hi
  have hz:(lots n f i).length < sizeLine:=X0 (Kq (E8 n f i) (show i<=1000 by omega)) (by decide)
  refine⟨_,[fN n,d1,tL (kN n f),c3,c4,c5,c6,c7,tL (lots n f (i+1)),tN i],rfl,.inl ?_,_,rfl⟩
  have hc:=rY (ft:=j_) (fe:=ka) (cap:=[fN i,fL (kN n f)]) (λ(j:Nat)=>PyData.int (j:Int)) (λj=>decide (f j=i)) (λj=>(Kd.fr [],nat j)) (List.range n) (λj hj=>by
   have eb:=BV f (X2.mp hj)
   simp(disch:=omega) only[j_,rn,reduceIte,eb,uC]) (λj hj _=>by
   simp(disch:=omega) only[ka,rn,reduceIte,nat])
  have k1:=gM ((List.range n).filter λj=>decide (f j=i)) nat
  have e2:(((List.range n).filter λj=>decide (f j=i)).map λj=>(Kd.fr [],nat j)).map Prod.snd=(lot n f i).map nat:=by rw[X7];rfl
  have hle:n<=100000:=by omega
  rw[Kb]
  by_cases e:f i=i
  ·rw[J5 e]
   have hd:decide (f i=i)=true:=J4 e
   simp(disch:=omega) only[dI,rn,reduceIte,ea,uC,hd,cI,hc,k1,e2,hle,hz,K0]
  ·rw[J6 e,Xx]
   have hd:decide (f i=i)=false:=J3 e
   simp(disch:=omega) only[dI,rn,reduceIte,ea,uC,hd])
 rw[K4,X9] at k1
 exact⟨jG,k1⟩
theorem Nd {n h:Nat}{vw:Nat->Nat->Ju}{G:Gp}(hn:n<=900)(gr:O6 n h vw G):∃f:Nat->Nat,cD [.int (n:Int),.dict (aN G)]=ah (true,.list (lots n f n))/\(∀i,i < n->f i<=i/\f (f i)=f i)/\∀i j,i < n->j < n->(f i=f j↔Cn n h vw i j):=by
 have hG:∀p∈G,p.2≠[]/\(∀i∈p.2,i < n)/\(∀i∈p.2,∀j∈p.2,Cn n h vw i j)/\p.2.length<=1000:=λp hp=>by
  obtain⟨k,hk,hm⟩:=gr.g p hp
  exact⟨gr.ne p hp,λi hi=>((hm i).mp hi).1,λi hi j hj=> .rel ((hm i).mp hi).1 ((hm j).mp hj).1 hk (((hm i).mp hi).2.trans ((hm j).mp hj).2.symm),(gr.ok.k p hp).2⟩
 have hw:wt n id<=900*900:=Kq (E7 (b:=900) n λi hi=>by show i<=900;omega) (Nat.mul_le_mul_right _ hn)
 obtain⟨f,c4,c5,c6,c7,e,p1,p2⟩:=RU (fN n) none none (by omega) gr.ok hG (900*900+1) sI id none none none none (λi hi=>⟨Ku _,.refl _⟩) (Nat.lt_succ_of_le hw) (by decide)
 have hc:∀a b k,a < n->b < n->k < h->vw a k=vw b k->f a=f b:=λa b k ha hb hk ev=>by
  obtain⟨l,_,hl⟩:=gr.get a k ha hk
  refine p2 _ hl a ?_ b ?_
  ·exact(gr.mem_of hl a).mpr ⟨ha,rfl⟩
  ·exact(gr.mem_of hl b).mpr ⟨hb,ev.symm⟩
 obtain⟨c9,e8⟩:=RW (fD (aN G)) (tB false) c4 c5 c6 c7 (by omega) f λi hi=>X0 (p1 i hi).1 hi
 refine⟨f,?_,λi hi=>⟨(p1 i hi).1,((p1 i hi).2.const f hc).symm⟩,λi j hi hj=>⟨λz=> ?_,λz=>z.const f hc⟩⟩
 ·have hn2:(0:Int)<=(n:Int)/\(n:Int)<=100000:=by omega
  have s1:(aC 2 (sd vf (eV 0))) (eD 10 [.int (n:Int),.dict (aN G)])=ah (.nx [fN n,fD (aN G),tL (kN n id),none,none,none,none,none,none,none]):=by
   simp(disch:=omega) only[rn,reduceIte,vf,hn2,and_self,K0];rfl
  refine iG ?_
  unfold mh
  rw[ax s1]
  rw[ax (show(aC 3 (eC (.bool true))) _=ah (.nx [fN n,fD (aN G),tL (kN n id),tB true,none,none,none,none,none,none]) from rfl)]
  rw[ax (show(pr sI j9 fR) _=_ from e)]
  rw[ax (show(aC 8 (cY [])) _=ah (.nx [fN n,fD (aN G),tL (kN n f),tB false,c4,c5,c6,c7,tL [],none]) from rfl)]
  have s8:(bU (fK (eV 0)) (cS 9) dI) [fN n,fD (aN G),tL (kN n f),tB false,c4,c5,c6,c7,tL [],none]=ah (.nx [fN n,fD (aN G),tL (kN n f),tB false,c4,c5,c6,c7,tL (lots n f n),c9]):=by
   simp(disch:=omega) only[rn,reduceIte,K0,e8]
  rw[ax s8]
  rfl
 ·have h1:=(p1 i hi).2
  have h2:=(p1 j hj).2
  rw[←z] at h2
  exact h1.trans h2.symm
def encV (V:List Ju):oZ:=V.map λx=>(x,.bool true)
def gW (S:List (Nat×Nat)):List Ju:=S.map λp=> .tuple [.int ((p.1:Nat):Int),.int ((p.2:Nat):Int)]
theorem HY (S:List (Nat×Nat)):aq (gW S)=true:=aP _ (λ_=>rfl) _
theorem BW (S:List (Nat×Nat)):(gW S).length=S.length:=K4 _
def RX (V:List Ju):Prop:=∀x∈V,pl x=true/\fM x=true
theorem rZ {x:Ju}(hx:pl x=true):∀{V:List Ju},RX V->(pw (encV V) x=true↔x∈V)
 | [],_=>by simp[pw,encV]
 | y :: V,h=>by
  have ih:=rZ hx (V:=V) λz hz=>h z (K9 _ hz)
  show((PyData.eqv y x || pw (encV V) x)=true)↔_
  rw[Bool.or_eq_true,ih,mG (h y K8).1 hx,K2]
  exact⟨λz=>z.elim (λz=> .inl z.symm) .inr,λz=>z.elim (λz=> .inl z.symm) .inr⟩
theorem Kc {V:List Ju}(h:RX V):jv (encV V)=true:=Uv.mpr λp hp=>by
 obtain⟨q,hq,rfl⟩:=Ky.mp hp
 exact(h q hq).2
theorem Ke (V:List Ju):gB (encV V)=true:=a6.mpr λx hx=>by
 obtain⟨p,hp,rfl⟩:=Ky.mp hx
 obtain⟨y,_,rfl⟩:=Ky.mp hp
 rfl
theorem RY {V:List Ju}(h:RX V){x:Ju}(hx:fM x=true):gA (encV V) x=true:=by unfold gA;rw[hx,Kc h];rfl
structure SI (n h:Nat)(vw:Nat->Nat->Ju)(a:Nat)(V:List Ju)(j:Nat)(V':List Ju)(S:List (Nat×Nat)):Prop where
 v:RX V'
 l:V'.length<=V.length+j
 sl:S.length<=j*1000
 up:∀x∈V,x∈V'
 dn:∀k,k < j->vw a k∈V'
 no:∀x∈V',x∈V∨∃k,k < j/\x=vw a k
 s:∀s∈S,s.1 < h/\s.2 < n/\vw s.2 s.1=vw a s.1
 c:∀k,k < j->vw a k∈V∨∀i,i < n->vw i k=vw a k->∃k',(k',i)∈S
theorem RZ {n h:Nat}{vw:Nat->Nat->Ju}{G:Gp}(gr:O6 n h vw G)(hh:h<=4)(hp:∀i k,pl (vw i k)=true/\fM (vw i k)=true/\bL (vw i k)=true)(a:Nat)(ha:a < n)(V:List Ju)(hV:RX V)(hl:V.length<=10000)(d0:Sl) :
  ∃(V':List Ju) (S:List (Nat×Nat)) (c4 c5:Sl),bj (mI [4,5]) br (gn 0 ((List.range h).map (vw a))) [d0,fD (aN G),tD (encV V),tL (gW []),none,none]=
  ah (.nx [d0,fD (aN G),tD (encV V'),tL (gW S),c4,c5])/\SI n h vw a V h V' S:=by
 obtain⟨Γ',k1,V',S,c4,c5,rfl,si⟩:=bo (g:=mI [4,5]) (b:=br) (ds:=gn 0 ((List.range h).map (vw a))) (Γ:=[d0,fD (aN G),tD (encV V),tL (gW []),none,none])
  (λj Γ=>∃(V':List Ju) (S:List (Nat×Nat)) (c4 c5:Sl),Γ=[d0,fD (aN G),tD (encV V'),tL (gW S),c4,c5]/\SI n h vw a V j V' S)
  ⟨V,[],none,none,rfl,hV,by omega,by simp,λx hx=>hx,(λk hk=>by omega),(λx hx=> .inl hx),(λs hs=>by cases hs),(λk hk=>by omega)⟩ (by
  rintro j d Γ hd ⟨V',S,c4,c5,rfl,si⟩
  rw[L2.lD,Kj] at hd
  have hj:j < h:=by
   apply Classical.byContradiction;intro z
   rw[Xz (by rw[X9];omega)] at hd;cases hd
  rw[U4 hj,Nat.zero_add] at hd
  have hd:PyData.tuple [.int (j:Int),vw a j]=d:=by simpa using hd
  subst hd
  obtain⟨p1,p2,p3⟩:=hp a j
  have nt:bL (.tuple [.int (j:Int),vw a j])=true:=by rw[eG,aq,aq,p3];rfl
  have hs:mI [4,5] (eR .base (.tuple [.int (j:Int),vw a j])) (.tuple [.int (j:Int),vw a j]) [d0,fD (aN G),tD (encV V'),tL (gW S),c4,c5]=some [d0,fD (aN G),tD (encV V'),tL (gW S),tN j,tA (vw a j)]:=by
   rw[dZ nt]
   show some (kP (kP _ 4 (eR (.fr []) (.int (j:Int))) (.int (j:Int))) 5 (eR (.fr []) (vw a j)) (vw a j))=_
   rw[uy,dZ p3];rfl
  have hK:=RY si.v p2
  by_cases hin:vw a j∈V'
  ·have hk:=(rZ p1 si.v).mpr hin
   refine⟨_,_,hs,.inl ?_,V',S,tN j,tA (vw a j),rfl,?_⟩
   ·simp(disch:=omega) only[br,rn,reduceIte,dZ p3,fZ,hK,hk]
   ·refine⟨si.v,by have:=si.l;omega,by have:=si.sl;omega,si.up,λk hk=> ?_,λx hx=> ?_,si.s,λk hk=> ?_⟩
    ·by_cases e:k=j
     ·subst e;exact hin
     ·exact si.dn k (by omega)
    ·rcases si.no x hx with z | ⟨k,z1,z2⟩
     ·exact .inl z
     ·exact .inr ⟨k,by omega,z2⟩
    ·by_cases e:k=j
     ·subst e
      rcases si.no _ hin with z | ⟨k',z1,z2⟩
      ·exact .inl z
      ·have:=gr.hand _ _ _ _ z2;omega
     ·exact si.c k (by omega)
  ·have hk:pw (encV V') (vw a j)=false:=Bool.eq_false_iff.mpr λz=>hin ((rZ p1 si.v).mp z)
   obtain⟨l,g1,g2⟩:=gr.get a j ha hj
   have hll:l.length<=1000:=(gr.ok.k _ g2).2
   have Xr:gA (aN G) (vw a j)=true:=by unfold gA;rw[p2,gr.ok.jv];rfl
   have hc:=qU (fe:=eJ) (cap:=[fN j]) nat (λi=>(Kd.fr [],.tuple [.int (j:Int),nat i])) l (λi hi=>by
    have nn:aq [PyData.int (j:Int),.int (i:Int)]=true:=rfl
    simp(disch:=omega) only[eJ,rn,reduceIte,nat,ao nn])
   have k1:=gM l λi=>PyData.tuple [.int (j:Int),nat i]
   have e2:(l.map λi=>(Kd.fr [],PyData.tuple [.int (j:Int),nat i])).map Prod.snd=gW (l.map λi=>(j,i)):=by unfold gW;rw[X7,X7];rfl
   have hle:l.length<=100000:=by omega
   have nn:=HY (l.map λi=>(j,i))
   have hsz:(gW S).length+(gW (l.map λi=>(j,i))).length<=sizeLine:=Kq (show _<=10000 by rw[BW,BW,K4];have:=si.sl;omega) (by decide)
   have hvl:(encV V').length < sizeLine:=X0 (show _<=20000 by unfold encV;rw[K4];have:=si.l;omega) (by decide)
   have nv:=Ke V'
   have ep:putK (encV V') (vw a j) (.bool true)=encV (V'++[vw a j]):=by
    unfold putK;rw[hk,J6 K3];unfold encV;rw[X6];rfl
   have ea:gW S++gW (l.map λi=>(j,i))=gW (S++l.map λi=>(j,i)):=by unfold gW;rw[X6]
   refine⟨_,_,hs,.inl ?_,V'++[vw a j],S++l.map (λi=>(j,i)),tN j,tA (vw a j),rfl,?_⟩
   ·simp(disch:=omega) only[br,rn,reduceIte,dZ p3,fZ,hK,hk,uN,nv,hvl,and_self,ep,zw,Xr,g1,cI,hc,k1,e2,hle,Fx,Pt,nn,hsz,ea]
   ·refine⟨λx hx=> ?_,by rw[Kx,X8];have:=si.l;omega,by rw[Kx,K4];have:=si.sl;omega,λx hx=>KY _ (si.up x hx),λk hk=> ?_,λx hx=> ?_,λs hs=> ?_,λk hk=> ?_⟩
    ·rcases Kk.mp hx with z | z
     ·exact si.v x z
     ·rw[K7.mp z];exact⟨p1,p2⟩
    ·by_cases e:k=j
     ·subst e;exact K1 _ (K7.mpr rfl)
     ·exact KY _ (si.dn k (by omega))
    ·rcases Kk.mp hx with z | z
     ·rcases si.no x z with z | ⟨k,z1,z2⟩
      ·exact .inl z
      ·exact .inr ⟨k,by omega,z2⟩
     ·exact .inr ⟨j,by omega,K7.mp z⟩
    ·rcases Kk.mp hs with z | z
     ·exact si.s s z
     ·obtain⟨i,hi,rfl⟩:=Ky.mp z
      have:=(gr.mem_of g2 i).mp hi
      exact⟨hj,this.1,this.2⟩
    ·by_cases e:k=j
     ·subst e
      exact .inr λi hi ev=>⟨k,K1 _ (Ky.mpr ⟨i,(gr.mem_of g2 i).mpr ⟨hi,ev⟩,rfl⟩)⟩
     ·rcases si.c k (by omega) with z | z
      ·exact .inl z
      ·exact .inr λi hi ev=>by
        obtain⟨k',hk'⟩:=z i hi ev
        exact⟨k',KY _ hk'⟩)
 rw[L2.eX,K4,X9] at si
 exact⟨V',S,c4,c5,k1,si⟩
theorem Nf {n h:Nat}{vw:Nat->Nat->Ju}{G:Gp}(gr:O6 n h vw G)(hh:h<=4)(hp:∀i k,pl (vw i k)=true/\fM (vw i k)=true/\bL (vw i k)=true)(a:Nat)(ha:a < n)(V:List Ju)(hV:RX V)(hl:V.length<=10000) :
  ∃(V':List Ju) (S:List (Nat×Nat)),aT [.list ((List.range h).map (vw a)),.dict (aN G)] (.dict (encV V))=ah (.list (gW S),.dict (encV V'))/\SI n h vw a V h V' S:=by
 obtain⟨V',S,c4,c5,e,si⟩:=RZ gr hh hp a ha V hV hl (fL ((List.range h).map (vw a)))
 refine⟨V',S,?_,si⟩
 have e0:dm (ni 6 [.list ((List.range h).map (vw a)),.dict (aN G)] (.dict (encV V)))=ah (.nx [fL ((List.range h).map (vw a)),fD (aN G),tD (encV V'),tL (gW S),c4,c5]):=by
  unfold dm
  rw[ax (show(aC 3 (cY [])) (ni 6 [.list ((List.range h).map (vw a)),.dict (aN G)] (.dict (encV V)))=ah (.nx [fL ((List.range h).map (vw a)),fD (aN G),tD (encV V),tL (gW []),none,none]) from rfl)]
  rw[ax (show(bU (ma (eV 0)) (mI [4,5]) br) [fL ((List.range h).map (vw a)),fD (aN G),tD (encV V),tL (gW []),none,none]=_ from e)]
  rfl
 unfold aT runIO
 rw[e0];rfl
abbrev Wy:=List (Nat×Option (Nat×Nat))
def O_:Option (Nat×Nat)->Ju
 | none=> .none
 | some p=> .tuple [.int ((p.1:Nat):Int),.int ((p.2:Nat):Int)]
def bI (W:Wy):oZ:=W.map λp=>(.int ((p.1:Nat):Int),O_ p.2)
def kW (W:Wy):List Nat:=W.map (·.1)
theorem BX (a b:Nat):PyData.eqv (.int (a:Int)) (.int (b:Int))=decide (a=b):=uC a b
theorem oV (x:Nat):∀W:Wy,pw (bI W) (.int (x:Int))=decide (x∈kW W)
 | []=>rfl
 | p :: W=>by
  show(PyData.eqv (.int ((p.1:Nat):Int)) (.int (x:Int)) || pw (bI W) (.int (x:Int)))=_
  rw[oV x W,BX]
  unfold kW
  rw[KZ,Uz]
  simp only[Bool.or_eq_true,J9,K2]
  exact⟨λz=>z.elim (λz=> .inl z.symm) .inr,λz=>z.elim (λz=> .inl z.symm) .inr⟩
theorem Kf (W:Wy):allI (bI W)=true:=Uv.mpr λp hp=>by
 obtain⟨q,hq,rfl⟩:=Ky.mp hp;rfl
theorem xj (W:Wy)(x:Nat):gA (bI W) (.int (x:Int))=true:=by unfold gA;rw[Kf];rfl
theorem Kg (W:Wy):gB (bI W)=true:=a6.mpr λx hx=>by
 obtain⟨p,hp,rfl⟩:=Ky.mp hx
 obtain⟨y,_,rfl⟩:=Ky.mp hp
 show bL (O_ y.2)=true
 cases y.2 <;> rfl
inductive HZ (n h:Nat)(vw:Nat->Nat->Ju)(first:Nat):Wy->Prop
 | one:first < n->HZ n h vw first [(first,none)]
 | snoc {W:Wy} {i k a:Nat}:HZ n h vw first W->a∈kW W->i∉kW W->i < n->k < h->vw i k=vw a k->HZ n h vw first (W++[(i,some (k,a))])
theorem BY (W:Wy)(e:Nat×Option (Nat×Nat)):kW (W++[e])=kW W++[e.1]:=by unfold kW;rw[X6];rfl
theorem HZ.nd {n h:Nat}{vw:Nat->Nat->Ju}{first:Nat}{W:Wy}(o:HZ n h vw first W):(kW W).Nodup/\(∀i∈kW W,i < n/\Cn n h vw first i)/\first∈kW W:=by
 induction o with
 | one h1=>exact⟨by simp[kW],λi hi=>by rw[show i=first from K7.mp hi];exact⟨h1,.refl _⟩,K7.mpr rfl⟩
 | snoc _ h1 h2 h3 h4 h5 ih=>
  obtain⟨i1,i2,i3⟩:=ih
  rw[BY]
  refine⟨XX.mpr ⟨i1,by simp,λx hx y hy z=> ?_⟩,λx hx=> ?_,KY _ i3⟩
  ·have zz:=z.trans (K7.mp hy)
   dsimp only at zz
   subst zz;exact h2 hx
  ·rcases Kk.mp hx with z | z
   ·exact i2 x z
   ·rw[K7.mp z]
    exact⟨h3,(i2 _ h1).2.trans (.rel (i2 _ h1).1 h3 h4 h5.symm)⟩
theorem E9:∀(n:Nat) (l:List Nat),l.Nodup->(∀i∈l,i < n)->l.length<=n
 | 0,l,_,h=>by
  cases l with
  | nil=>simp
  | cons a l=>exact absurd (h a K8) (by omega)
 | n+1,l,nd,h=>by
  have ih:=E9 n (l.erase n) (nd.erase n) λi hi=>by
   have h1:=(List.Nodup.mem_erase_iff nd).mp hi
   have:=h i h1.2
   have:=h1.1
   omega
  by_cases hm:n∈l
  ·rw[List.length_erase_of_mem hm] at ih;omega
  ·rw[List.erase_of_not_mem hm] at ih;omega
theorem HZ.len {n h:Nat}{vw:Nat->Nat->Ju}{first:Nat}{W:Wy}(o:HZ n h vw first W):W.length<=n:=by
 have:=E9 n (kW W) o.nd.1 λi hi=>(o.nd.2.1 i hi).1
 unfold kW at this;rw[K4] at this;exact this
theorem Ng (d0 d1 d2 d4 d5:Sl){n h:Nat}{vw:Nat->Nat->Ju}{first a:Nat}(hn:n<=1000)(o7:Bool):∀(S:List (Nat×Nat)) (W:Wy) (Fu:List Nat) (c8 c9:Sl),(∀s∈S,s.1 < h/\s.2 < n/\vw s.2 s.1=vw a s.1)->HZ n h vw first W->a∈kW W->Fu.length<=W.length->
  ∃(W':Wy) (N:List Nat) (B6 jG:Sl),bj (mI [8,9]) cN (gW S) [d0,d1,d2,tD (bI W),d4,d5,tL (Fu.map nat),some (o7,.int (a:Int)),c8,c9]=
  ah (.nx [d0,d1,d2,tD (bI W'),d4,d5,tL ((Fu++N).map nat),some (o7,.int (a:Int)),B6,jG])/\HZ n h vw first W'/\kW W'=kW W++N/\∀s∈S,s.2∈kW W'
 | [],W,Fu,c8,c9,_,o,_,_=>⟨W,[],c8,c9,by rw[Xx];rfl,o,by rw[Xx],λs hs=>by cases hs⟩
 | s :: S,W,Fu,c8,c9,hS,o,ha,hF=>by
  obtain⟨s1,s2,s3⟩:=hS s K8
  have hK:=xj W s.2
  have hk:=oV s.2 W
  have Xs:=o.len
  have hs:mI [8,9] (eR .base (.tuple [.int ((s.1:Nat):Int),.int ((s.2:Nat):Int)])) (.tuple [.int ((s.1:Nat):Int),.int ((s.2:Nat):Int)]) [d0,d1,d2,tD (bI W),d4,d5,tL (Fu.map nat),some (o7,.int (a:Int)),c8,c9]=some [d0,d1,d2,tD (bI W),d4,d5,tL (Fu.map nat),some (o7,.int (a:Int)),tN s.1,tN s.2]:=rfl
  show∃(W':Wy) (N:List Nat) (B6 jG:Sl),bj (mI [8,9]) cN (.tuple [.int ((s.1:Nat):Int),.int ((s.2:Nat):Int)] :: gW S) _=_/\_
  by_cases hin:s.2∈kW W
  ·obtain⟨W',N,B6,jG,e,r1,r2,r3⟩:=Ng d0 d1 d2 d4 d5 hn o7 S W Fu (tN s.1) (tN s.2) (λt ht=>hS t (K9 _ ht)) o ha hF
   refine⟨W',N,B6,jG,?_,r1,r2,λt ht=> ?_⟩
   ·rw[J4 hin] at hk
    have hb:cN [d0,d1,d2,tD (bI W),d4,d5,tL (Fu.map nat),some (o7,.int (a:Int)),tN s.1,tN s.2]=ah (.nx [d0,d1,d2,tD (bI W),d4,d5,tL (Fu.map nat),some (o7,.int (a:Int)),tN s.1,tN s.2]):=by
     simp(disch:=omega) only[cN,rn,reduceIte,fZ,hK,hk]
    rw[bj,hs,cw,ay,hb,ay];exact e
   ·rcases K2.mp ht with rfl | ht
    ·rw[r2];exact KY _ hin
    ·exact r3 t ht
  ·have o2:HZ n h vw first (W++[(s.2,some (s.1,a))]):=.snoc o ha hin s2 s1 s3
   have k2:kW (W++[(s.2,some (s.1,a))])=kW W++[s.2]:=BY _ _
   obtain⟨W',N,B6,jG,e,r1,r2,r3⟩:=Ng d0 d1 d2 d4 d5 hn o7 S (W++[(s.2,some (s.1,a))]) (Fu++[s.2]) (tN s.1) (tN s.2) (λt ht=>hS t (K9 _ ht)) o2 (by rw[k2];exact KY _ ha) (by simp only[Kx,X8];omega)
   rw[k2] at r2
   refine⟨W',s.2 :: N,B6,jG,?_,r1,by rw[r2,Xj];rfl,λt ht=> ?_⟩
   ·rw[J3 hin] at hk
    have hwl:(bI W).length < sizeLine:=X0 (show _<=1000 by unfold bI;rw[K4];omega) (by decide)
    have hfl:Fu.length < sizeLine:=X0 (show _<=1000 by omega) (by decide)
    have nv:=Kg W
    have nt:aq [PyData.int ((s.1:Nat):Int),.int (a:Int)]=true:=rfl
    have ep:putK (bI W) (.int ((s.2:Nat):Int)) (.tuple [.int ((s.1:Nat):Int),.int (a:Int)])=bI (W++[(s.2,some (s.1,a))]):=by
     unfold putK;rw[hk,J6 K3];unfold bI;rw[X6];rfl
    have ef:Fu.map nat++[.int ((s.2:Nat):Int)]=(Fu++[s.2]).map nat:=by rw[X6];rfl
    have hb:cN [d0,d1,d2,tD (bI W),d4,d5,tL (Fu.map nat),some (o7,.int (a:Int)),tN s.1,tN s.2]=ah (.nx [d0,d1,d2,tD (bI (W++[(s.2,some (s.1,a))])),d4,d5,tL ((Fu++[s.2]).map nat),some (o7,.int (a:Int)),tN s.1,tN s.2]):=by
     simp(disch:=omega) only[cN,rn,reduceIte,fZ,hK,hk,yw,uN,ao nt,nt,nv,hwl,hfl,and_self,ep,ef]
    rw[bj,hs,cw,ay,hb,ay]
    rw[show Fu++s.2 :: N=Fu++[s.2]++N by rw[Xj];rfl]
    exact e
   ·rcases K2.mp ht with rfl | ht
    ·rw[r2];exact KY _ (K1 _ (K7.mpr rfl))
    ·exact r3 t ht
structure BI (n h:Nat)(vw:Nat->Nat->Ju)(first:Nat)(W:Wy)(V:List Ju)(R Fu:List Nat):Prop where
 o:HZ n h vw first W
 v:RX V
 l:V.length+h*(R.length+Fu.length)<=h*W.length
 f:Fu.length<=W.length
 a:∀x∈V,∀i k,i < n->k < h->vw i k=x->i∈kW W
 b:∀i∈kW W,i∈R∨i∈Fu∨∀k,k < h->vw i k∈V
 c:∀i,i∈R∨i∈Fu->i∈kW W
theorem PU {n h:Nat}{vw:Nat->Nat->Ju}{first:Nat}{G:Gp}(gr:O6 n h vw G)(hh:h<=4)(hp:∀i k,pl (vw i k)=true/\fM (vw i k)=true/\bL (vw i k)=true)(hn:n<=1000)(d2 d5:Sl):∀(R:List Nat) (W:Wy) (V:List Ju) (Fu:List Nat) (c7 c8 c9:Sl),BI n h vw first W V R Fu->
  ∃(W':Wy) (V':List Ju) (Pa:List Nat) (gR B6 jG:Sl),bj (cS 7) fq (R.map nat) [fL ((List.range n).map λi=> .list ((List.range h).map (vw i))),fD (aN G),d2,tD (bI W),tD (encV V),d5,tL (Fu.map nat),c7,c8,c9]=
  ah (.nx [fL ((List.range n).map λi=> .list ((List.range h).map (vw i))),fD (aN G),d2,tD (bI W'),tD (encV V'),d5,tL (Pa.map nat),gR,B6,jG])/\BI n h vw first W' V' [] Pa/\W'.length+Fu.length=W.length+Pa.length
 | [],W,V,Fu,c7,c8,c9,bi=>⟨W,V,Fu,c7,c8,c9,rfl,bi,rfl⟩
 | a :: R,W,V,Fu,c7,c8,c9,bi=>by
  have Ub:=bi.c a (.inl K8)
  have han:=(bi.o.nd.2.1 a Ub).1
  have Xs:=bi.o.len
  have hVl:V.length<=10000:=by
   have h1:=bi.l
   have h2:h*W.length<=4*1000:=Yu hh (by omega)
   omega
  obtain⟨V',S,e1,si⟩:=Nf gr hh hp a han V bi.v hVl
  obtain⟨W',N,B6,jG,e2,r1,r2,r3⟩:=Ng (fL ((List.range n).map λi=> .list ((List.range h).map (vw i)))) (fD (aN G)) d2 (tD (encV V')) d5 hn true S W Fu c8 c9 si.s bi.o Ub bi.f
  have wl:W'.length=W.length+N.length:=by
   have:=congrArg List.length r2
   unfold kW at this
   rw[Kx,K4,K4] at this;exact this
  have Xt:BI n h vw first W' V' R (Fu++N):=by
   refine⟨r1,si.v,?_,by rw[Kx,wl];have:=bi.f;omega,λx hx i k hi hk ev=> ?_,λi hi=> ?_,λi hi=> ?_⟩
   ·have h1:=bi.l
    have h2:=si.l
    rw[Kv] at h1
    rw[Kx,wl]
    have e1:h*(R.length+1+Fu.length)=h*R.length+h+h*Fu.length:=by rw[Nat.mul_add,Nat.mul_add,Nat.mul_one]
    have e2:h*(R.length+(Fu.length+N.length))=h*R.length+(h*Fu.length+h*N.length):=by rw[Nat.mul_add,Nat.mul_add]
    have e3:h*(W.length+N.length)=h*W.length+h*N.length:=Nat.mul_add ..
    rw[e1] at h1
    rw[e2,e3]
    omega
   ·have old:∀i,i∈kW W->i∈kW W':=λi hi=>by rw[r2];exact KY _ hi
    rcases si.no x hx with z | ⟨k',z1,z2⟩
    ·exact old i (bi.a x z i k hi hk ev)
    ·have:k=k':=gr.hand _ _ _ _ (ev.trans z2)
     subst this
     rcases si.c k z1 with z | z
     ·exact old i (bi.a _ z i k hi hk (ev.trans z2))
     ·obtain⟨k',hk'⟩:=z i hi (ev.trans z2)
      exact r3 _ hk'
   ·rw[r2] at hi
    rcases Kk.mp hi with z | z
    ·rcases bi.b i z with z | z | z
     ·rcases K2.mp z with rfl | z
      ·exact .inr (.inr si.dn)
      ·exact .inl z
     ·exact .inr (.inl (KY _ z))
     ·exact .inr (.inr λk hk=>si.up _ (z k hk))
    ·exact .inr (.inl (K1 _ z))
   ·rw[r2]
    rcases hi with z | z
    ·exact KY _ (bi.c i (.inl (K9 _ z)))
    ·rcases Kk.mp z with z | z
     ·exact KY _ (bi.c i (.inr z))
     ·exact K1 _ z
  obtain⟨VU,VV,VW,GR,R0,M6,e,q1,q2⟩:=PU gr hh hp hn d2 d5 R W' V' (Fu++N) (tN a) B6 jG Xt
  refine⟨VU,VV,VW,GR,R0,M6,?_,q1,by rw[Kx] at q2;omega⟩
  have ea:jE ((List.range n).map λi=>PyData.list ((List.range h).map (vw i))) (a:Int)=some (.list ((List.range h).map (vw a))):=cW (by rw[Kj,U4 han];rfl)
  have hx:dW dU (eV 0) (eV 7) [fL ((List.range n).map λi=> .list ((List.range h).map (vw i))),fD (aN G),d2,tD (bI W),tD (encV V),d5,tL (Fu.map nat),tN a,c8,c9]=ah (.base,.list ((List.range h).map (vw a))):=by
   simp(disch:=omega) only[rn,reduceIte,ea]
  have hb:fq [fL ((List.range n).map λi=> .list ((List.range h).map (vw i))),fD (aN G),d2,tD (bI W),tD (encV V),d5,tL (Fu.map nat),tN a,c8,c9]=
    bj (mI [8,9]) cN (gW S) [fL ((List.range n).map λi=> .list ((List.range h).map (vw i))),fD (aN G),d2,tD (bI W),tD (encV V'),d5,tL (Fu.map nat),tN a,c8,c9]:=by
   unfold fq Hy
   show(ar _ λx=>ar (ah (Kd.base,PyData.dict (aN G))) λy=>_)=_
   rw[hx]
   simp only[ay,e1,pI,and_self,if_true]
   rfl
  show bj (cS 7) fq (.int (a:Int) :: R.map nat) _=_
  rw[bj,show cS 7 (eR .base (.int (a:Int))) (.int (a:Int)) [fL ((List.range n).map λi=> .list ((List.range h).map (vw i))),fD (aN G),d2,tD (bI W),tD (encV V),d5,tL (Fu.map nat),c7,c8,c9]=some [fL ((List.range n).map λi=> .list ((List.range h).map (vw i))),fD (aN G),d2,tD (bI W),tD (encV V),d5,tL (Fu.map nat),tN a,c8,c9] from rfl,cw,ay,hb,e2,ay]
  exact e
def gX (n h:Nat)(vw:Nat->Nat->Ju):List Ju:=(List.range n).map λi=> .list ((List.range h).map (vw i))
theorem TC {n h:Nat}{vw:Nat->Nat->Ju}{first:Nat}{G:Gp}(gr:O6 n h vw G)(hh:h<=4)(hp:∀i k,pl (vw i k)=true/\fM (vw i k)=true/\bL (vw i k)=true)(hn:n<=1000)(d2:Sl):∀(m fuel:Nat) (W:Wy) (V:List Ju) (R:List Nat) (c6 c7 c8 c9:Sl),BI n h vw first W V R []->n < W.length+m->m+1<=fuel->
  ∃(W':Wy) (V':List Ju) (lP gR B6 jG:Sl),gu fuel ja gI [fL (gX n h vw),fD (aN G),d2,tD (bI W),tD (encV V),tL (R.map nat),c6,c7,c8,c9]=
  ah (.nx [fL (gX n h vw),fD (aN G),d2,tD (bI W'),tD (encV V'),tL [],lP,gR,B6,jG])/\BI n h vw first W' V' [] []:=by
 intro m
 induction m with
 | zero=>
  intro fuel W V R c6 c7 c8 c9 bi hm hf
  have:=bi.o.len
  omega
 | succ m ih=>
  intro fuel W V R c6 c7 c8 c9 bi hm hf
  obtain⟨fuel,rfl⟩:∃k,fuel=k+2:=⟨fuel - 2,by omega⟩
  cases R with
  | nil=>exact⟨W,V,c6,c7,c8,c9,by rw[qQ rfl];rfl,bi⟩
  | cons a R=>
   obtain⟨W',V',Pa,gR,B6,jG,e,q1,q2⟩:=PU gr hh hp hn d2 (fL ((a :: R).map nat)) (a :: R) W V [] c7 c8 c9 bi
   have hb:gI [fL (gX n h vw),fD (aN G),d2,tD (bI W),tD (encV V),tL ((a :: R).map nat),c6,c7,c8,c9]=ah (.nx [fL (gX n h vw),fD (aN G),d2,tD (bI W'),tD (encV V'),tL (Pa.map nat),none,gR,B6,jG]):=by
    unfold gI
    rw[ax (show(aC 6 (cY [])) _=ah (.nx [fL (gX n h vw),fD (aN G),d2,tD (bI W),tD (encV V),tL ((a :: R).map nat),tL ([].map nat),c7,c8,c9]) from rfl)]
    rw[ax (show(bU (pk (eV 5)) (cS 7) fq) [fL (gX n h vw),fD (aN G),d2,tD (bI W),tD (encV V),tL ((a :: R).map nat),tL ([].map nat),c7,c8,c9]=_ from e)]
    rfl
   have hc:ja [fL (gX n h vw),fD (aN G),d2,tD (bI W),tD (encV V),tL ((a :: R).map nat),c6,c7,c8,c9]=ah true:=by
    have hd:decide ((0:Int) < (((a :: R).map nat).length:Nat))=true:=J4 (by rw[K4,Kv];omega)
    show ah (decide ((0:Int) < (((a :: R).map nat).length:Nat)))=_
    rw[hd]
   rw[Uj] at q2
   have WD:BI n h vw first W' V' Pa []:=⟨q1.o,q1.v,by have:=q1.l;rw[Uj] at this⊢;rw[Nat.add_zero];rw[Nat.zero_add] at this;exact this,by simp,q1.a,λi hi=>(q1.b i hi).elim (λz=>by cases z) λz=>z.elim .inl λz=> .inr (.inr z),λi hi=>hi.elim (λz=>q1.c i (.inr z)) λz=>by cases z⟩
   cases Pa with
   | nil=>exact⟨W',V',none,gR,B6,jG,by rw[oA hc hb,qQ rfl];rfl,WD⟩
   | cons b Pa=>
    rw[Kv] at q2
    obtain⟨VU,VV,GQ,GR,R0,M6,e',r⟩:=ih (fuel+1) W' V' (b :: Pa) none gR B6 jG WD (by omega) (by omega)
    exact⟨VU,VV,GQ,GR,R0,M6,by rw[oA hc hb];exact e',r⟩
theorem Pb {n h:Nat}{vw:Nat->Nat->Ju}{first:Nat}{G:Gp}(gr:O6 n h vw G)(hh:h<=4)(hp:∀i k,pl (vw i k)=true/\fM (vw i k)=true/\bL (vw i k)=true)(hn:n<=1000)(hf:first < n) :
  ∃W:Wy,ee [.list (gX n h vw),.dict (aN G),.int (first:Int)]=ah (true,.dict (bI W))/\HZ n h vw first W/\∀i,i < n->(i∈kW W↔Cn n h vw first i):=by
 have XA:BI n h vw first [(first,none)] [] [first] []:=⟨.one hf,(λx hx=>by cases hx),by simp,by simp,(λx hx=>by cases hx),λi hi=> .inl hi,λi hi=>hi.elim id λz=>by cases z⟩
 obtain⟨W,V,c6,c7,c8,c9,e,bi⟩:=TC gr hh hp hn (fN first) 1000 sI [(first,none)] [] [first] none none none none XA (by rw[X8];omega) (by decide)
 refine⟨W,?_,bi.o,λi hi=>⟨λz=>(bi.o.nd.2.1 i z).2,λz=> ?_⟩⟩
 ·refine iG ?_
  unfold nD
  rw[ax (show(aC 3 (Cq (eV 2) (eC .none))) (eD 10 [.list (gX n h vw),.dict (aN G),.int (first:Int)])=ah (.nx [fL (gX n h vw),fD (aN G),fN first,tD (bI [(first,none)]),none,none,none,none,none,none]) from rfl)]
  rw[ax (show(aC 4 uM) _=ah (.nx [fL (gX n h vw),fD (aN G),fN first,tD (bI [(first,none)]),tD (encV []),none,none,none,none,none]) from rfl)]
  rw[ax (show(aC 5 (cY [(eV 2)])) _=ah (.nx [fL (gX n h vw),fD (aN G),fN first,tD (bI [(first,none)]),tD (encV []),tL ([first].map nat),none,none,none,none]) from rfl)]
  rw[ax (show(pr sI ja gI) [fL (gX n h vw),fD (aN G),fN first,tD (bI [(first,none)]),tD (encV []),tL ([first].map nat),none,none,none,none]=_ from e)]
  rfl
 ·have hcl:∀a b k,a < n->b < n->k < h->vw a k=vw b k->a∈kW W->b∈kW W:=λa b k ha hb hk ev Ub=>by
   rcases bi.b a Ub with z | z | z
   ·cases z
   ·cases z
   ·exact bi.a _ (z k hk) b k hb hk ev.symm
  exact(z.closed (λa=>a∈kW W) hcl).mp bi.o.nd.2.2
inductive Ch (W:Wy):Nat->List (Nat×Nat)->Prop
 | nil {i:Nat}:jp (bI W) (.int (i:Int))=some .none->Ch W i []
 | cons {i k a:Nat} {p:List (Nat×Nat)}:jp (bI W) (.int (i:Int))=some (.tuple [.int (k:Int),.int (a:Int)])->Ch W a p->Ch W i ((k,i) :: p)
inductive Fw (n h:Nat)(vw:Nat->Nat->Ju):Nat->List (Nat×Nat)->Nat->Prop
 | nil (a:Nat):Fw n h vw a [] a
 | cons {a i k b:Nat} {s:List (Nat×Nat)}:k < h->i < n->vw i k=vw a k->Fw n h vw i s b->Fw n h vw a ((k,i) :: s) b
theorem Fw.snoc {n h:Nat}{vw:Nat->Nat->Ju}{a b:Nat}{s:List (Nat×Nat)}(f:Fw n h vw a s b){k i:Nat}(hk:k < h)(hi:i < n)(e:vw i k=vw b k):Fw n h vw a (s++[(k,i)]) i:=by
 induction f with
 | nil a=>exact .cons hk hi e (.nil i)
 | cons h1 h2 h3 _ ih=>exact .cons h1 h2 h3 (ih e)
theorem zg {W:Wy}{e:Nat×Option (Nat×Nat)}{x v:Ju}(h:jp (bI W) x=some v):jp (bI (W++[e])) x=some v:=by
 unfold jp at h⊢
 rw[show bI (W++[e])=bI W++bI [e] from X6,List.find?_append]
 cases hf:(bI W).find? λp=>PyData.eqv p.1 x with
 | none=>rw[hf] at h;cases h
 | some q=>rw[hf] at h;exact h
theorem Ch.mono {W:Wy}{e:Nat×Option (Nat×Nat)}{i:Nat}{p:List (Nat×Nat)}(c:Ch W i p):Ch (W++[e]) i p:=by
 induction c with
 | nil h=>exact .nil (zg h)
 | cons h _ ih=>exact .cons (zg h) ih
theorem E_ {W:Wy}{i:Nat}{o:Option (Nat×Nat)}(h:i∉kW W):jp (bI (W++[(i,o)])) (.int (i:Int))=some (O_ o):=by
 have hn:(bI W).find? (λp=>PyData.eqv p.1 (.int (i:Int)))=none:=List.find?_eq_none.mpr λp hp z=>by
  obtain⟨q,hq,rfl⟩:=Ky.mp hp
  have z:PyData.eqv (.int ((q.1:Nat):Int)) (.int (i:Int))=true:=z
  rw[BX] at z
  exact h (Ky.mpr ⟨q,hq,of_decide_eq_true z⟩)
 unfold jp
 rw[show bI (W++[(i,o)])=bI W++bI [(i,o)] from X6,List.find?_append,hn,Option.none_or]
 have:PyData.eqv (.int (i:Int)) (.int (i:Int))=true:=by rw[BX];exact J4 rfl
 show(List.find? _ ((PyData.int (i:Int),O_ o) :: [])).map _=_
 rw[XW,this];rfl
theorem HZ.path {n h:Nat}{vw:Nat->Nat->Ju}{first:Nat}{W:Wy}(o:HZ n h vw first W):∀i∈kW W,∃p,Ch W i p/\p.length<=W.length/\Fw n h vw first p.reverse i/\(i=first->p=[]):=by
 induction o with
 | one h1=>
  intro i hi
  rw[show i=first from K7.mp hi]
  exact⟨[],.nil (E_ (W:=[]) (by simp[kW])),by simp,.nil _,λ_=>rfl⟩
 | snoc oo h1 h2 h3 h4 h5 ih=>
  intro x hx
  rw[BY] at hx
  rcases Kk.mp hx with z | z
  ·obtain⟨p,p1,p2,p3,p4⟩:=ih x z
   exact⟨p,p1.mono,by rw[Kx];omega,p3,p4⟩
  ·rw[show x=_ from K7.mp z]
   obtain⟨p,p1,p2,p3,p4⟩:=ih _ h1
   refine⟨_,.cons (E_ h2) p1.mono,by rw[Kx,Kv];simp;omega,?_,λzz=> ?_⟩
   ·rw[Y3];exact p3.snoc h4 h3 h5
   ·dsimp only at zz
    rw[zz] at h2
    exact absurd oo.nd.2.2 h2
theorem Kh {W:Wy}(d1:Sl){i:Nat}{p:List (Nat×Nat)}(c:Ch W i p):∀(fuel:Nat) (acc:List (Nat×Nat)) (c4:Sl),p.length+1<=fuel->acc.length+p.length<=5000->∃(j:Nat) (o_:Sl),gu fuel gU kg [fD (bI W),d1,tL (gW acc),tN i,c4]=
  ah (.nx [fD (bI W),d1,tL (gW (acc++p)),tN j,o_]):=by
 induction c with
 | @nil i hg=>
  intro fuel acc c4 hf hl
  obtain⟨fuel,rfl⟩:∃k,fuel=k+1:=⟨fuel - 1,by omega⟩
  have hK:=xj W i
  refine⟨i,c4,?_⟩
  have hc:gU [fD (bI W),d1,tL (gW acc),tN i,c4]=ah false:=by
   simp(disch:=omega) only[gU,rn,h_,lR,bX,reduceIte,zw,hK,hg]
  rw[qQ hc,Xx]
 | @cons i k a p hg _ ih=>
  intro fuel acc c4 hf hl
  rw[Kv] at hf hl
  obtain⟨fuel,rfl⟩:∃k,fuel=k+1:=⟨fuel - 1,by omega⟩
  have hK:=xj W i
  have nt:aq [PyData.int (k:Int),.int (a:Int)]=true:=rfl
  have XB:aq [PyData.int (k:Int),.int (i:Int)]=true:=rfl
  have a0:jE [PyData.int (k:Int),.int (a:Int)] 0=some (.int (k:Int)):=rfl
  have a1:jE [PyData.int (k:Int),.int (a:Int)] 1=some (.int (a:Int)):=rfl
  have hc:gU [fD (bI W),d1,tL (gW acc),tN i,c4]=ah true:=by
   simp(disch:=omega) only[gU,rn,h_,lR,bX,reduceIte,zw,hK,hg]
  have hz:(gW acc).length < sizeLine:=X0 (show _<=5000 by rw[BW];omega) (by decide)
  have ea:gW acc++[.tuple [.int (k:Int),.int (i:Int)]]=gW (acc++[(k,i)]):=by unfold gW;rw[X6];rfl
  have hb:kg [fD (bI W),d1,tL (gW acc),tN i,c4]=ah (.nx [fD (bI W),d1,tL (gW (acc++[(k,i)])),tN a,tT [.int (k:Int),.int (a:Int)]]):=by
   simp(disch:=omega) only[kg,rn,h_,lR,bX,reduceIte,zw,hK,hg,ao nt,ao XB,a0,a1,hz,ea]
  obtain⟨j,o_,e⟩:=ih fuel (acc++[(k,i)]) (tT [.int (k:Int),.int (a:Int)]) (by omega) (by rw[Kx,X8];omega)
  refine⟨j,o_,?_⟩
  rw[oA hc hb,e,Xj];rfl
theorem GW {W:Wy}{g:Nat}{p:List (Nat×Nat)}(hg:g∈kW W)(c:Ch W g p)(hl:p.length<=1000):im [.dict (bI W),.int (g:Int)]=ah (true,.list (gW p.reverse)):=by
 obtain⟨j,c4,e⟩:=Kh (fN g) c sI [] none (Kq (show p.length+1<=2000 by omega) (by decide)) (by rw[Uj];omega)
 rw[Y4] at e
 have hK:=xj W g
 have hk:=oV g W
 rw[J4 hg] at hk
 have s1:(jm (tE (bz fZ (eV 1) (eV 0))) (ck (eC .none)) cA) (eD 5 [.dict (bI W),.int (g:Int)])=ah (.nx [fD (bI W),fN g,none,none,none]):=by
  simp(disch:=omega) only[rn,reduceIte,fZ,hK,hk]
 have nn:=HY p
 refine iG ?_
 unfold qr
 rw[ax s1]
 rw[ax (show(aC 2 (cY [])) _=ah (.nx [fD (bI W),fN g,tL (gW []),none,none]) from rfl)]
 rw[ax (show(xw 3 1) _=ah (.nx [fD (bI W),fN g,tL (gW []),tN g,none]) from rfl)]
 rw[ax (show(pr sI gU kg) [fD (bI W),fN g,tL (gW []),tN g,none]=_ from e)]
 have er:CV (.list (gW p))=some (.list (gW p.reverse)):=by
  rw[CV,nn,J5 rfl];unfold gW;rw[List.map_reverse]
 simp(disch:=omega) only[rn,reduceIte,er]
theorem GX {W:Wy}{g:Nat}(hg:g∉kW W):im [.dict (bI W),.int (g:Int)]=ah (true,.none):=by
 have hK:=xj W g
 have hk:=oV g W
 rw[J3 hg] at hk
 have s1:(jm (tE (bz fZ (eV 1) (eV 0))) (ck (eC .none)) cA) (eD 5 [.dict (bI W),.int (g:Int)])=ah (.rt true .none):=by
  simp(disch:=omega) only[rn,reduceIte,fZ,hK,hk]
 refine iG ?_
 unfold qr
 rw[O2 s1]
theorem Pc (h:Nat)(L:List Rn):oB h L=gX L.length h (vw L):=by
 unfold oB gX
 refine Yv (by simp) λi h1 h2=> ?_
 have hi:i < L.length:=by rw[K4] at h1;exact h1
 simp only[Yz,List.getElem_range]
 unfold qR vw
 rw[KW,K5 hi];rfl
theorem VX (L:List Rn)(i k:Nat):pl (vw L i k)=true/\fM (vw L i k)=true/\bL (vw L i k)=true:=⟨oT _ _ _,oU _ _ _,qO _ _ _⟩
theorem xk {h k:Nat}{ws ss:List Ju}{L:List Rn}(hh:h<=4)(gw:Good ws)(gs:Good ss)(hw1:1<=ws.length)(hw:ws.length<=3)(hk:k<=3)(hs:ss.length<=6)(hL:xf ws ss k=L.map gy)(r:RN h L)(hl:L.length<=200)(one other:Nat)(h1:one < L.length)(h2:other < L.length) :
  (Cn L.length h (vw L) one other/\∃s,bd [.int (h:Int),.list ws,.int (k:Int),.list ss,.int (one:Int),.int (other:Int)]=ah (true,.list (gW s))/\Fw L.length h (vw L) one s other/\(one=other->s=[])/\s.length<=200)∨
  (¬ Cn L.length h (vw L) one other/\bd [.int (h:Int),.list ws,.int (k:Int),.list ss,.int (one:Int),.int (other:Int)]=ah (true,.none)):=by
 have hb:L.length*h<=1000:=Kq (Yu hl hh) (by decide)
 have gr:=M9 (h:=h) L hb
 have XO:ss.length*ws.length^k=L.length:=by
  have:=congrArg List.length hL
  unfold xf at this
  rw[K4,K4,X9] at this;exact this
 have ea:=RJ ws ss k gw gs hw1 (by omega) (by omega) (by omega) (by omega)
 rw[hL] at ea
 have ev:=E5 hh r (by omega)
 have eg:=J_ (h:=h) (L:=L) hb
 obtain⟨W,ew,o,hW⟩:=Pb (first:=one) gr hh (VX L) (by omega) h1
 rw[←Pc] at ew
 have hlen:=o.len
 by_cases hc:other∈kW W
 ·obtain⟨p,p1,p2,p3,p4⟩:=o.path other hc
  have er:=GW hc p1 (by omega)
  refine .inl ⟨(hW other h2).mp hc,p.reverse,?_,p3,(λz=>by rw[p4 z.symm];rfl),by rw[XZ];omega⟩
  simp(disch:=omega) only[bd,jb,rn,reduceIte,ea,ev,eg,ew,er]
 ·have er:=GX hc
  refine .inr ⟨λz=>hc ((hW other h2).mpr z),?_⟩
  simp(disch:=omega) only[bd,jb,rn,reduceIte,ea,ev,eg,ew,er]
theorem xm {α:Type}(l:List α)(a:α):jE (l++[a]) (-1)=some a:=by
 unfold jE xq
 rw[J6 (by omega),J5 (by rw[Kx,X8];omega)]
 show(l++[a])[((-1:Int)+((l++[a]).length:Nat)).toNat]? =_
 rw[Kx,X8,show((-1:Int)+((l.length+1:Nat):Int)).toNat=l.length by omega]
 simp
theorem Nh (i:Int):bt [.int i]=ah (true,.bool true):=JS i
def w1:TF:=sH (iJ (tE (Ck "tuple" (eV 5)))) (sH (tE (bz Cj (lq jI [(eV 5)]) (eC (.int 2)))) (sH (iJ (tE (aG bt [(dW dU (eV 5) (eC (.int 0)))]))) (iJ (tE (aG bt [(dW dU (eV 5) (eC (.int 1)))])))))
def w2:TF:=sH (iJ (tE (q8 QH Nn (eC (.int 0)) (dW dU (eV 5) (eC (.int 0))) (eV 1)))) (iJ (tE (q8 QH Nn (eC (.int 0)) (dW dU (eV 5) (eC (.int 1))) (lq jI [(eV 0)]))))
def w3:TF:=iJ (tE (dW dU (aG cq [(dW dU (eV 0) (dW dU (eV 4) (sd m8 (eC (.int 1))))),(dW dU (eV 0) (dW dU (eV 5) (eC (.int 1))))]) (dW dU (eV 5) (eC (.int 0)))))
def w4:SF:=jo 4 (dW dU (eV 5) (eC (.int 1)))
theorem Pd:f9=au (jm w1 (ck (eC .none)) cA) (au (jm w2 (ck (eC .none)) cA) (au (jm w3 (ck (eC .none)) cA) w4)):=rfl
theorem PV {L:List Rn}{i:Nat}(hi:i < L.length)(k:Nat):vw L i k=cQ L[i].1 L[i].2 k:=by
 unfold vw;rw[KW,K5 hi];rfl
def rk (h k:Nat)(L:List Rn):Prop:=∀p∈L,uz h 12 p.1 p.2/\p.2.length=k
theorem Ni {h k0:Nat}{L:List Rn}(hh:h<=4)(r:rk h k0 L)(hl:L.length<=200)(d2 d3:Sl)(acc:List Nat)(a i k:Nat)(ha:a < L.length)(hi:i < L.length)(hk:k < h)(e:vw L i k=vw L a k)(hz:acc.length<=9000) :
  f9 [fL (L.map gy),fN h,d2,d3,tL ((acc++[a]).map nat),tT [.int (k:Int),.int (i:Int)]]=ah (.nx [fL (L.map gy),fN h,d2,d3,tL ((acc++[a]++[i]).map nat),tT [.int (k:Int),.int (i:Int)]]):=by
 obtain⟨wa,la⟩:=r L[a] (Xy ha)
 obtain⟨wi,li⟩:=r L[i] (Xy hi)
 have nt:aq [PyData.int (k:Int),.int (i:Int)]=true:=rfl
 have a0:jE [PyData.int (k:Int),.int (i:Int)] 0=some (.int (k:Int)):=rfl
 have a1:jE [PyData.int (k:Int),.int (i:Int)] 1=some (.int (i:Int)):=rfl
 have t1:w1 [fL (L.map gy),fN h,d2,d3,tL ((acc++[a]).map nat),tT [.int (k:Int),.int (i:Int)]]=ah false:=by
  simp(disch:=omega) only[w1,rn,reduceIte,ao nt,a0,a1,Nh]
  rfl
 have hk1:decide ((0:Int)<=(k:Int))=true:=J4 (by omega)
 have hk2:decide ((k:Int) < (h:Int))=true:=J4 (by omega)
 have hi1:decide ((0:Int)<=(i:Int))=true:=J4 (by omega)
 have hi2:decide ((i:Int) < (L.length:Int))=true:=J4 (by omega)
 have t2:w2 [fL (L.map gy),fN h,d2,d3,tL ((acc++[a]).map nat),tT [.int (k:Int),.int (i:Int)]]=ah false:=by
  simp(disch:=omega) only[w2,rn,reduceIte,ao nt,a0,a1,hk1,hk2,hi1,hi2]
 have el:jE ((acc++[a]).map nat) (-1)=some (.int (a:Int)):=by rw[X6];exact xm _ _
 have ea:jE (L.map gy) (a:Int)=some (gy L[a]):=cW (by rw[Kj,K5 ha];rfl)
 have ei:jE (L.map gy) (i:Int)=some (gy L[i]):=cW (by rw[Kj,K5 hi];rfl)
 have es:cq [gy L[a],gy L[i]]=ah (true,.list (tab L[a].1 L[i].1 L[a].2 L[i].2 h)):=OV wa wi hh (la.trans li.symm)
 have hsame:gp L[a].1 L[i].1 L[a].2 L[i].2 k=true:=by
  unfold gp
  rw[←PV ha k,←PV hi k,e]
  exact BJ _ (oT _ _ _)
 have et:jE (tab L[a].1 L[i].1 L[a].2 L[i].2 h) (k:Int)=some (.bool true):=cW (by unfold tab;rw[Kj,U4 hk];show some (PyData.bool (gp L[a].1 L[i].1 L[a].2 L[i].2 k))=_;rw[hsame])
 have t3:w3 [fL (L.map gy),fN h,d2,d3,tL ((acc++[a]).map nat),tT [.int (k:Int),.int (i:Int)]]=ah false:=by
  simp(disch:=omega) only[w3,rn,reduceIte,ao nt,a0,a1,el,ea,ei,dZ (qT wa),dZ (qT wi),es,et]
 have hsz:(acc++[a]).length < sizeLine:=X0 (show _<=10000 by rw[Kx,X8];omega) (by decide)
 have em:(acc++[a]).map nat++[.int (i:Int)]=(acc++[a]++[i]).map nat:=by rw[X6 (l₂:=[i])];rfl
 have t4:w4 [fL (L.map gy),fN h,d2,d3,tL ((acc++[a]).map nat),tT [.int (k:Int),.int (i:Int)]]=ah (.nx [fL (L.map gy),fN h,d2,d3,tL ((acc++[a]++[i]).map nat),tT [.int (k:Int),.int (i:Int)]]):=by
  simp(disch:=omega) only[w4,rn,reduceIte,ao nt,a1,hsz,em]
 rw[Pd,ax ((xg t1).trans (BR _)),ax ((xg t2).trans (BR _)),ax ((xg t3).trans (BR _)),t4]
theorem Pe {h k0:Nat}{L:List Rn}(hh:h<=4)(r:rk h k0 L)(hl:L.length<=200)(d2 d3:Sl){a b:Nat}{s:List (Nat×Nat)}(f:Fw L.length h (vw L) a s b):∀(acc:List Nat) (c5:Sl),a < L.length->acc.length+s.length<=9000->∃(acc':List Nat) (qX:Sl),bj (cS 5) f9 (gW s) [fL (L.map gy),fN h,d2,d3,tL ((acc++[a]).map nat),c5]=
  ah (.nx [fL (L.map gy),fN h,d2,d3,tL ((acc'++[b]).map nat),qX]):=by
 induction f with
 | nil a=>intro acc c5 _ _;exact⟨acc,c5,rfl⟩
 | @cons a i k b s hk hi e _ ih=>
  intro acc c5 ha hz
  rw[Kv] at hz
  obtain⟨acc',qX,e'⟩:=ih (acc++[a]) (tT [.int (k:Int),.int (i:Int)]) hi (by rw[Kx,X8];omega)
  refine⟨acc',qX,?_⟩
  show bj (cS 5) f9 (.tuple [.int (k:Int),.int (i:Int)] :: gW s) _=_
  rw[bj,show cS 5 (eR .base (.tuple [.int (k:Int),.int (i:Int)])) (.tuple [.int (k:Int),.int (i:Int)]) [fL (L.map gy),fN h,d2,d3,tL ((acc++[a]).map nat),c5]=some [fL (L.map gy),fN h,d2,d3,tL ((acc++[a]).map nat),tT [.int (k:Int),.int (i:Int)]] from rfl,cw,ay,Ni hh r hl d2 d3 acc a i k ha hi hk e (by omega),ay]
  exact e'
theorem Ki {h k0:Nat}{L:List Rn}(hh:h<=4)(r:rk h k0 L)(hl:L.length<=200){a b:Nat}{s:List (Nat×Nat)}(f:Fw L.length h (vw L) a s b)(ha:a < L.length)(hs:s.length<=1000):∃acc:List Nat,eK [.list (L.map gy),.int (h:Int),.int (a:Int),.list (gW s)]=ah (true,.list ((acc++[b]).map nat)):=by
 obtain⟨acc,c5,e⟩:=Pe hh r hl (fN a) (fL (gW s)) f [] none ha (by rw[Uj];omega)
 refine⟨acc,iG ?_⟩
 unfold pO
 rw[ax (show(jm (iJ (tE (Ck "list" (eV 3)))) (ck (eC .none)) cA) (eD 6 [.list (L.map gy),.int (h:Int),.int (a:Int),.list (gW s)])=ah (.nx [fL (L.map gy),fN h,fN a,fL (gW s),none,none]) from rfl)]
 rw[ax (show(aC 4 (cY [(eV 2)])) _=ah (.nx [fL (L.map gy),fN h,fN a,fL (gW s),tL ((([]:List Nat)++[a]).map nat),none]) from rfl)]
 rw[ax (show(bU (pk (eV 3)) (cS 5) f9) [fL (L.map gy),fN h,fN a,fL (gW s),tL ((([]:List Nat)++[a]).map nat),none]=_ from e)]
 rfl
theorem Fa (l:List Nat)(lo hi:Option Int):∃l':List Nat,cutD (l.map nat) lo hi=l'.map nat/\(∀j∈l',j∈l)/\l'.length<=l.length:=by
 unfold cutD
 exact⟨_,by rw[←List.map_drop,←List.map_take],λj hj=>List.mem_of_mem_drop (List.mem_of_mem_take hj),Kq (List.length_take_le' ..) (by rw[List.length_drop];omega)⟩
theorem H_ {n:Nat}{f:Nat->Nat}(hn:0 < n)(hf:∀i,i < n->f i<=i/\f (f i)=f i)(i:Int)(hi:i=0∨i= -1):∃l:List Nat,jE (lots n f n) i=some (.list (l.map nat))/\(∀j∈l,j < n)/\l.length<=n:=by
 have hne:lots n f n≠[]:=by
  have h0:f 0=0:=Nat.le_zero.mp (hf 0 hn).1
  unfold lots
  rw[ne_eq,List.map_eq_nil_iff]
  exact List.ne_nil_of_mem (U9.mpr ⟨X2.mpr hn,J4 h0⟩)
 have hall:∀x∈lots n f n,∃l:List Nat,x= .list (l.map nat)/\(∀j∈l,j < n)/\l.length<=n:=λx hx=>by
  obtain⟨a,_,rfl⟩:=Ky.mp hx
  exact⟨_,rfl,λj hj=>X2.mp (U9.mp hj).1,Kq (Xq _ _) (by rw[X9];exact Ku _)⟩
 generalize lots n f n=xs at hne hall
 rcases hi with rfl | rfl
 ·cases xs with
  | nil=>exact absurd rfl hne
  | cons x xs=>
   obtain⟨l,rfl,hl⟩:=hall x K8
   exact⟨l,cW (j:=0) rfl,hl⟩
 ·obtain⟨l,e,hl⟩:=hall _ (List.getLast_mem hne)
  refine⟨l,?_,hl⟩
  have:xs=xs.dropLast++[.list (l.map nat)]:=by rw[←e];exact(List.dropLast_concat_getLast hne).symm
  rw[this];exact xm _ _
theorem BZ (l:List Nat)(m:Nat):lays m (l.map nat)=true:=j0 _ (λ_=>by cases m <;> rfl) l
theorem zh {α:Type}(f:α->Ju):∀(l:List α),∃k,iH (l.map λa=>(Kd.base,f a))=some k
 | []=>⟨_,rfl⟩
 | a :: l=>by
  obtain⟨k,e⟩:=zh f l
  exact⟨.any,by rw[KZ,iH,e];rfl⟩
def Nj (n:Nat)(f:Nat->Nat)(one other:Nat):List Nat:=((List.range n).filter λa=>decide (f a=a)).filter λa=>decide (one∈lot n f a) && decide (other∈lot n f a)
theorem Nk {n:Nat}{f:Nat->Nat}{one other:Nat}(h1:one < n)(h2:other < n)(hf:∀i,i < n->f i<=i/\f (f i)=f i):Nj n f one other=[]↔f one≠f other:=by
 have ml:∀{a j},j∈lot n f a↔j < n/\f j=a:=λ{a j}=>by
  unfold lot;rw[U9,X2,J9]
 constructor
 ·intro z e
  have:f one∈Nj n f one other:=by
   unfold Nj
   rw[U9,U9,X2,KQ,J9,J9,J9,ml,ml]
   exact⟨⟨X0 (hf one h1).1 h1,(hf one h1).2⟩,⟨h1,rfl⟩,h2,e.symm⟩
  rw[z] at this;cases this
 ·intro z
  refine List.eq_nil_iff_forall_not_mem.mpr λa ha=> ?_
  unfold Nj at ha
  rw[U9,KQ,J9,J9,ml,ml] at ha
  exact z (ha.2.1.2.trans ha.2.2.2.symm)
def TD:EF:=bz Cj (cI (pk (eV 6)) [7,11] oQ qu) (cY [])
theorem zi {n:Nat}{f:Nat->Nat}{one other:Nat}(h1:one < n)(h2:other < n)(hn:n<=1000)(hf:∀i,i < n->f i<=i/\f (f i)=f i)(d0 d1 d2 d3 d4 d5 d8 d9 XC PN R3 R4:Sl)(o7 XD:Bool) :
  TD [d0,d1,d2,d3,d4,d5,tL (lots n f n),some (o7,.int (one:Int)),d8,d9,XC,some (XD,.int (other:Int)),PN,R3,R4]=ah (.fr [],.bool (decide (f one=f other))):=by
 have hc:=rY (ft:=oQ) (fe:=qu) (cap:=[fN one,fN other]) (λa=>PyData.list ((lot n f a).map nat)) (λa=>decide (one∈lot n f a) && decide (other∈lot n f a)) (λa=>(Kd.base,PyData.list ((lot n f a).map nat))) ((List.range n).filter λa=>decide (f a=a)) (λa ha=>by
  have g1:Lc (.int (one:Int)) (.list ((lot n f a).map nat))=some (.bool (decide (one∈lot n f a))):=by rw[qo rfl (BZ _ _),mD]
  have g2:Lc (.int (other:Int)) (.list ((lot n f a).map nat))=some (.bool (decide (other∈lot n f a))):=by rw[qo rfl (BZ _ _),mD]
  cases e1:decide (one∈lot n f a) with
  | true=>
   rw[e1] at g1
   simp(disch:=omega) only[oQ,rn,reduceIte,g1,g2,UZ]
  | false=>
   rw[e1] at g1
   simp(disch:=omega) only[oQ,rn,reduceIte,g1,Y9]) (λa ha _=>by
  simp(disch:=omega) only[qu,rn,reduceIte])
 obtain⟨kd,hk⟩:=zh (λa=>PyData.list ((lot n f a).map nat)) (Nj n f one other)
 have hc:fE oQ qu [fN one,fN other] (lots n f n)=some ((Nj n f one other).map λa=>(Kd.base,PyData.list ((lot n f a).map nat))):=hc
 have e2:((Nj n f one other).map λa=>(Kd.base,PyData.list ((lot n f a).map nat))).map Prod.snd=(Nj n f one other).map λa=>PyData.list ((lot n f a).map nat):=by rw[X7];rfl
 have hle:(lots n f n).length<=100000:=Kq (E8 n f n) (by omega)
 have hlay:lay 60 (.list ((Nj n f one other).map λa=>PyData.list ((lot n f a).map nat)))=true:=by
  rw[lay];exact j0 _ (λa=>by rw[lay];exact BZ _ _) _
 have hg:Cj (.list ((Nj n f one other).map λa=>PyData.list ((lot n f a).map nat))) (.list [])=some (.bool (decide (f one=f other))):=by
  rw[To hlay rfl]
  by_cases e:f one=f other
  ·cases hj:Nj n f one other with
   | nil=>exact absurd e ((Nk h1 h2 hf).mp hj)
   | cons a l=>rw[J4 e];rfl
  ·rw[(Nk h1 h2 hf).mpr e,J3 e];rfl
 simp(disch:=omega) only[TD,rn,reduceIte,cI,hc,hk,e2,hle,hg]
structure Cs (h k:Nat)(ws ss:List Ju)(L:List Rn):Prop where
 hh:h<=4
 gw:Good ws
 gs:Good ss
 hw1:1<=ws.length
 hw:ws.length<=3
 hk:k<=3
 hs:ss.length<=6
 hL:xf ws ss k=L.map gy
 r:rk h k L
 hl:L.length<=200
def bw (i:Nat):EF:=aG bd [(eV 1),(dW dU (eV 8) (eC (.int 0))),(eV 3),(dW dU (eV 8) (eC (.int 1))),(eV 7),(eV i)]
def XE:TF:=tE (bz Cj (eV 10) (cY []))
theorem Pf:qt=au (aC 10 (bw 7)) (au (jm XE (ck (eC (.bool false))) cA) (jo 10 (jH [(eC (.int 0)),(eV 7)]))):=rfl
def k13:SF:=jm (iJ (tE (eV 13))) (au (jm (tE (bz pj (eV 12) (eC .none))) (ck (eC (.bool false))) cA) NS) cA
def k14:EF:=aG eK [(eV 5),(eV 1),(eV 7),(eV 12)]
def kT:TF:=sH (tE (bz S1 (eV 14) (eC .none))) (tE (bz Cj (dW dU (eV 14) (sd m8 (eC (.int 1)))) (eV 11)))
theorem Ia:oR=au (aC 12 (bw 11)) (au (aC 13 TD) (au k13 (au (aC 14 k14) (jm kT (ck (eC (.bool false))) cA)))):=rfl
section
variable {h k:Nat}{ws ss:List Ju}{L:List Rn}(cs:Cs h k ws ss L)
abbrev m6 (s0:Ju)(h k:Nat)(ws ss:List Ju)(L:List Rn)(f:Nat->Nat)(one:Nat)(t:bD):bD :=
 fA s0 :: fN h :: fL ws :: fN k :: fL ss :: tL (L.map gy) :: tL (lots L.length f L.length) :: tN one :: tL [.list ws,.list ss] :: t
theorem hd0 (ws ss:List Ju):jE [PyData.list ws,.list ss] 0=some (.list ws):=rfl
theorem hd1 (ws ss:List Ju):jE [PyData.list ws,.list ss] 1=some (.list ss):=rfl
include cs
theorem R5 (s0:Ju)(f:Nat->Nat){one:Nat}(h1:one < L.length)(t:bD):bw 7 (m6 s0 h k ws ss L f one t)=ah (.fr [],.list (gW [])):=by
 rcases xk cs.hh cs.gw cs.gs cs.hw1 cs.hw cs.hk cs.hs cs.hL (λp hp=>(cs.r p hp).1) cs.hl one one h1 h1 with⟨_,s,e,_,es,_⟩ | ⟨z,_⟩
 ·rw[es rfl] at e
  simp(disch:=omega) only[bw,rn,reduceIte,hd0,hd1,e]
 ·exact absurd (.refl one) z
theorem Pg (s0:Ju)(f:Nat->Nat){one:Nat}(h1:one < L.length)(c9 c10 TH PN R3 R4:Sl):qt (m6 s0 h k ws ss L f one [c9,c10,TH,PN,R3,R4])=ah (.nx (m6 s0 h k ws ss L f one [c9,tL [.tuple [.int 0,.int (one:Int)]],TH,PN,R3,R4])):=by
 have e:=R5 cs s0 f h1 [c9,c10,TH,PN,R3,R4]
 have s1:(aC 10 (bw 7)) (m6 s0 h k ws ss L f one [c9,c10,TH,PN,R3,R4])=ah (.nx (m6 s0 h k ws ss L f one [c9,tL (gW []),TH,PN,R3,R4])):=by
  unfold aC;rw[e];rfl
 rw[Pf,ax s1]
 rfl
theorem Ph (s0:Ju)(f:Nat->Nat)(hf:∀i,i < L.length->f i<=i/\f (f i)=f i)(hc:∀i j,i < L.length->j < L.length->(f i=f j↔Cn L.length h (vw L) i j)){one other:Nat}(h1:one < L.length)(h2:other < L.length)(c9 c10 c12 B5 c14:Sl) :
  ∃GJ R6 R7:Sl,(oR (m6 s0 h k ws ss L f one [c9,c10,tN other,c12,B5,c14])=ah (.nx (m6 s0 h k ws ss L f one [c9,c10,tN other,GJ,R6,R7]))∨
   oR (m6 s0 h k ws ss L f one [c9,c10,tN other,c12,B5,c14])=ah (.ct (m6 s0 h k ws ss L f one [c9,c10,tN other,GJ,R6,R7]))):=by
 have hl:=cs.hl
 rcases xk cs.hh cs.gw cs.gs cs.hw1 cs.hw cs.hk cs.hs cs.hL (λp hp=>(cs.r p hp).1) cs.hl one other h1 h2 with⟨z,s,e,fw,_,sl⟩ | ⟨z,e⟩
 ·have jn:decide (f one=f other)=true:=J4 ((hc one other h1 h2).mpr z)
  have eb:bw 11 (m6 s0 h k ws ss L f one [c9,c10,tN other,c12,B5,c14])=ah (.fr [],.list (gW s)):=by
   simp(disch:=omega) only[bw,rn,h_,lR,bX,reduceIte,hd0,hd1,e]
  have ej:=zi (n:=L.length) (f:=f) h1 h2 (by omega) hf (fA s0) (fN h) (fL ws) (fN k) (fL ss) (tL (L.map gy)) (tL [.list ws,.list ss]) c9 c10 (tL (gW s)) B5 c14 true true
  rw[jn] at ej
  obtain⟨acc,er⟩:=Ki cs.hh cs.r cs.hl fw h1 (by omega)
  refine⟨tL (gW s),tB true,tL ((acc++[other]).map nat),.inl ?_⟩
  have s1:(aC 12 (bw 11)) (m6 s0 h k ws ss L f one [c9,c10,tN other,c12,B5,c14])=ah (.nx (m6 s0 h k ws ss L f one [c9,c10,tN other,tL (gW s),B5,c14])):=by
   unfold aC;rw[eb];rfl
  have s2:(aC 13 TD) (m6 s0 h k ws ss L f one [c9,c10,tN other,tL (gW s),B5,c14])=ah (.nx (m6 s0 h k ws ss L f one [c9,c10,tN other,tL (gW s),tB true,c14])):=by
   unfold aC;rw[ej];rfl
  have s3:k13 (m6 s0 h k ws ss L f one [c9,c10,tN other,tL (gW s),tB true,c14])=ah (.nx (m6 s0 h k ws ss L f one [c9,c10,tN other,tL (gW s),tB true,c14])):=rfl
  have e4:k14 (m6 s0 h k ws ss L f one [c9,c10,tN other,tL (gW s),tB true,c14])=ah (.fr [],.list ((acc++[other]).map nat)):=by
   simp(disch:=omega) only[k14,rn,h_,lR,bX,reduceIte,er]
  have s4:(aC 14 k14) (m6 s0 h k ws ss L f one [c9,c10,tN other,tL (gW s),tB true,c14])=ah (.nx (m6 s0 h k ws ss L f one [c9,c10,tN other,tL (gW s),tB true,tL ((acc++[other]).map nat)])):=by
   unfold aC;rw[e4];rfl
  have el:jE ((acc++[other]).map nat) (-1)=some (.int (other:Int)):=by rw[X6];exact xm _ _
  have s5:kT (m6 s0 h k ws ss L f one [c9,c10,tN other,tL (gW s),tB true,tL ((acc++[other]).map nat)])=ah false:=by
   simp(disch:=omega) only[kT,rn,h_,lR,bX,reduceIte,el]
  rw[Ia,ax s1,ax s2,ax s3,ax s4,xg s5];rfl
 ·have jn:decide (f one=f other)=false:=J3 λy=>z ((hc one other h1 h2).mp y)
  have eb:bw 11 (m6 s0 h k ws ss L f one [c9,c10,tN other,c12,B5,c14])=ah (.fr [],.none):=by
   simp(disch:=omega) only[bw,rn,h_,lR,bX,reduceIte,hd0,hd1,e]
  have ej:=zi (n:=L.length) (f:=f) h1 h2 (by omega) hf (fA s0) (fN h) (fL ws) (fN k) (fL ss) (tL (L.map gy)) (tL [.list ws,.list ss]) c9 c10 (tA .none) B5 c14 true true
  rw[jn] at ej
  refine⟨tA .none,tB false,c14,.inr ?_⟩
  have s1:(aC 12 (bw 11)) (m6 s0 h k ws ss L f one [c9,c10,tN other,c12,B5,c14])=ah (.nx (m6 s0 h k ws ss L f one [c9,c10,tN other,tA .none,B5,c14])):=by
   unfold aC;rw[eb];rfl
  have s2:(aC 13 TD) (m6 s0 h k ws ss L f one [c9,c10,tN other,tA .none,B5,c14])=ah (.nx (m6 s0 h k ws ss L f one [c9,c10,tN other,tA .none,tB false,c14])):=by
   unfold aC;rw[ej];rfl
  rw[Ia,ax s1,ax s2];rfl
end
theorem Nl {l:List Nat}{i:Nat}{d:Ju}(h:(l.map nat)[i]? =some d):∃j∈l,d= .int (j:Int):=by
 rw[Kj] at h
 cases e:l[i]? with
 | none=>rw[e] at h;cases h
 | some j=>rw[e] at h;exact⟨j,Y0 e,(Option.some.inj h).symm⟩
theorem main (ns:List Int)(hns:ns.length<=63):∃o,mK [.list (ns.map PyData.int)]=some (.ok (o,.bool true)):=by
 obtain⟨h,ws,ss,k,h2,h4,gw,iw,hw1,hw,gs,is,hs1,hs,hk,ec⟩:=O5 ns
 have hp:ws.length^k<=27:=Kq (Nat.pow_le_pow_left hw k) (Kq (Nat.pow_le_pow_right (by decide) hk) (by decide))
 have hp1:1<=ws.length^k:=Nat.pow_pos hw1
 have hN:ss.length*ws.length^k<=162:=Kq (Yu hs hp) (by decide)
 have XR:0 < ss.length*ws.length^k:=Nat.mul_pos hs1 hp1
 obtain⟨L,eL,lL,rL⟩:=zc iw is hw1 (by omega) (List.range (ss.length*ws.length^k)) (λN hN=>X2.mp hN)
 rw[X9] at lL
 have eL:xf ws ss k=L.map gy:=eL
 have cs:Cs h k ws ss L:=⟨h4,gw,gs,hw1,hw,hk,hs,eL,rL,by omega⟩
 have rr:RN h L:=λp hp=>(rL p hp).1
 have hb:L.length*h<=1000:=Kq (Yu (show L.length<=200 by omega) h4) (by decide)
 have er:=GS ws ss k gw gs hw1 hw hk hs
 rw[eL] at er
 have eg:=BU h4 rr hb
 obtain⟨f,ep,hf,hcn⟩:=Nd (show L.length<=900 by omega) (M9 (h:=h) L hb)
 have c4:=kM ns 4 (by decide)
 obtain⟨z,hz,em⟩:=GN (hU ns 4) 4 (by decide) (by decide)
 have hL0:0 < L.length:=by omega
 have h1:z % L.length < L.length:=Nat.mod_lt _ hL0
 have e1:((z:Nat):Int) % (L.length:Int)=((z % L.length:Nat):Int):=(Int.natCast_emod _ _).symm
 generalize z % L.length=one at h1 e1
 obtain⟨l0,a0,b0⟩:=H_ hL0 hf 0 (.inl rfl)
 obtain⟨l1,a1,b1⟩:=H_ hL0 hf (-1) (.inr rfl)
 obtain⟨m0,u0,v0⟩:=Fa l0 (some (-3)) none
 obtain⟨m1,u1,v1⟩:=Fa l1 (some (-3)) none
 have n0:aq (l0.map nat)=true:=aP _ (λ_=>rfl) _
 have n1:aq (l1.map nat)=true:=aP _ (λ_=>rfl) _
 have ga:ia (.list (m0.map nat)) (.list (m1.map nat))=some (.list ((m0++m1).map nat)):=by
  have q0:aq (m0.map nat)=true:=aP _ (λ_=>rfl) _
  have q1:aq (m1.map nat)=true:=aP _ (λ_=>rfl) _
  have q2:(m0.map nat).length+(m1.map nat).length<=sizeLine:=Kq (show _<=1000 by rw[K4,K4];have:=v0.2;have:=v1.2;have:=b0.2;have:=b1.2;omega) (by decide)
  simp only[ia,q0,q1,Xv,UZ,J4 q2,if_true,X6]
 have hmem:∀j∈m0++m1,j < L.length:=λj hj=>(Kk.mp hj).elim (λy=>b0.1 j (v0.1 j y)) λy=>b1.1 j (v1.1 j y)
 obtain⟨s0,hs0⟩:∃s0,s0=PyData.list (ns.map PyData.int):=⟨_,rfl⟩
 have hn0:eR (.base) s0= .base:=by rw[hs0];rfl
 rw[←hs0] at ec c4⊢
 have nT:bL (.tuple [.int (h:Int),.list ws,.int (k:Int),.list ss])=false:=by rw[eG];simp only[aq,qm,Y9,Bool.and_false]
 have XF:aG cm [(eV 0)] (eD 15 [s0])=ah (.any,.tuple [.int (h:Int),.list ws,.int (k:Int),.list ss]):=by
  simp(disch:=omega) only[rn,reduceIte,hn0,ec,C3 nT]
 have s1:(Le (mI [1,2,3,4]) (aG cm [(eV 0)])) (eD 15 [s0])=ah (.nx [fA s0,fN h,fL ws,fN k,fL ss,none,none,none,none,none,none,none,none,none,none]):=by
  unfold Le;rw[XF];rfl
 have s2:(aC 5 (aG dk [(eV 2),(eV 3),(eV 4)])) [fA s0,fN h,fL ws,fN k,fL ss,none,none,none,none,none,none,none,none,none,none]=ah (.nx [fA s0,fN h,fL ws,fN k,fL ss,tL (L.map gy),none,none,none,none,none,none,none,none,none]):=by
  simp(disch:=omega) only[rn,reduceIte,er]
 have s3:(aC 6 (aG cD [(lq jI [(eV 5)]),(aG ca [(eV 1),(eV 5)])])) [fA s0,fN h,fL ws,fN k,fL ss,tL (L.map gy),none,none,none,none,none,none,none,none,none]=ah (.nx [fA s0,fN h,fL ws,fN k,fL ss,tL (L.map gy),tL (lots L.length f L.length),none,none,none,none,none,none,none,none]):=by
  simp(disch:=omega) only[rn,reduceIte,eg,ep]
 have hLi:(0:Int) < (L.length:Int):=by omega
 have s4:(aC 7 (bz iO (aG bJ [(aG az [(eV 0),(eC (.int 4))]),(eC (.int 4))]) (lq jI [(eV 5)]))) [fA s0,fN h,fL ws,fN k,fL ss,tL (L.map gy),tL (lots L.length f L.length),none,none,none,none,none,none,none,none]=ah (.nx [fA s0,fN h,fL ws,fN k,fL ss,tL (L.map gy),tL (lots L.length f L.length),tN one,none,none,none,none,none,none,none]):=by
  simp(disch:=omega) only[rn,reduceIte,hn0,c4,em,e1,hLi]
 have s5:(aC 8 (cY [(lq p6 [(eV 2)]),(lq p6 [(eV 4)])])) [fA s0,fN h,fL ws,fN k,fL ss,tL (L.map gy),tL (lots L.length f L.length),tN one,none,none,none,none,none,none,none]=ah (.nx (m6 s0 h k ws ss L f one [none,none,none,none,none,none])):=by
  simp(disch:=omega) only[rn,reduceIte,pK gw.n,pK gs.n]
 have s6:∃c9 c10:Sl,(bU (fK (eC (.int 2))) (cS 9) qt) (m6 s0 h k ws ss L f one [none,none,none,none,none,none])=ah (.nx (m6 s0 h k ws ss L f one [c9,c10,none,none,none,none])):=by
  obtain⟨Γ',k1,c9,c10,rfl⟩:=bo (g:=cS 9) (b:=qt) (ds:=(List.range 2).map λ(i:Nat)=>PyData.int (i:Int)) (Γ:=m6 s0 h k ws ss L f one [none,none,none,none,none,none])
   (λi Γ=>∃c9 c10:Sl,Γ=m6 s0 h k ws ss L f one [c9,c10,none,none,none,none]) ⟨none,none,rfl⟩ (by
   rintro i d Γ hd ⟨c9,c10,rfl⟩
   obtain⟨rfl,hi⟩:=cy hd
   exact⟨_,_,rfl,.inl (Pg cs s0 f h1 (tN i) c10 none none none none),_,_,rfl⟩)
  have e6:fK (eC (.int 2)) (m6 s0 h k ws ss L f one [none,none,none,none,none,none])=ah (.fr [],(List.range 2).map λ(i:Nat)=>PyData.int (i:Int)):=by
   show Fv (.int 2)=_
   rw[C5 (by omega)];rfl
  refine⟨c9,c10,?_⟩
  unfold bU
  rw[e6,ay]
  simp only[mS]
  exact k1
 obtain⟨c9,c10,s6⟩:=s6
 obtain⟨Γ',k7,w_,c12,B5,c14,rfl⟩:=bo (g:=cS 11) (b:=oR) (ds:=(m0++m1).map nat) (Γ:=m6 s0 h k ws ss L f one [c9,c10,none,none,none,none])
  (λi Γ=>∃w_ c12 B5 c14:Sl,Γ=m6 s0 h k ws ss L f one [c9,c10,w_,c12,B5,c14]) ⟨none,none,none,none,rfl⟩ (by
  rintro i d Γ hd ⟨w_,c12,B5,c14,rfl⟩
  obtain⟨j,hj,rfl⟩:=Nl hd
  obtain⟨GJ,R6,R7,e⟩:=Ph cs s0 f hf hcn h1 (hmem j hj) c9 c10 c12 B5 c14
  exact⟨m6 s0 h k ws ss L f one [c9,c10,tN j,c12,B5,c14],_,rfl,e,_,_,_,_,rfl⟩)
 have e7:(bz ia (Lf (dW dU (eV 6) (eC (.int 0))) (some (sd m8 (eC (.int 3)))) none) (Lf (dW dU (eV 6) (sd m8 (eC (.int 1)))) (some (sd m8 (eC (.int 3)))) none)) (m6 s0 h k ws ss L f one [c9,c10,none,none,none,none])=ah (.fr [],.list ((m0++m1).map nat)):=by
  simp(disch:=omega) only[rn,reduceIte,Lf,oE,oI,a0,a1,Ey n0,Ey n1,u0,u1,ga]
 have s7:(bU (pk (bz ia (Lf (dW dU (eV 6) (eC (.int 0))) (some (sd m8 (eC (.int 3)))) none) (Lf (dW dU (eV 6) (sd m8 (eC (.int 1)))) (some (sd m8 (eC (.int 3)))) none))) (cS 11) oR) (m6 s0 h k ws ss L f one [c9,c10,none,none,none,none])=ah (.nx (m6 s0 h k ws ss L f one [c9,c10,w_,c12,B5,c14])):=by
  unfold bU pk
  rw[e7];exact k7
 have ly:lay 60 (.list [.list ws,.list ss])=true:=by
  rw[lay,lays,lays,lays,lay,lay,gw.l 55,gs.l 55];rfl
 have ge:Ci (.list [.list ws,.list ss]) (.list [.list ws,.list ss])=some (.bool true):=by rw[PF ly ly,uA 60 _ ly]
 refine⟨true,?_⟩
 show mK _=ah (true,.bool true)
 refine iG ?_
 unfold Md
 rw[ax s1,ax s2,ax s3,ax s4,ax s5,ax s6,ax s7]
 simp(disch:=omega) only[rn,reduceIte,ge]
end K32
namespace PySem.W.Fast
theorem tw11393345483442241596:1=1:=rfl
theorem tw2426303383030486731:1=1:=rfl
theorem tw8238540137707088065:1=1:=rfl
theorem tw9664653194623774813:1=1:=rfl
theorem tw11766559493018473012:1=1:=rfl
theorem tw11969696315819498599:1=1:=rfl
theorem tw17365884263286538512:1=1:=rfl
theorem tw3379794712536472488:1=1:=rfl
theorem tw1937837583584761729:1=1:=rfl
theorem tw5630023421409142615:1=1:=rfl
theorem tw298472577464053158:1=1:=rfl
theorem tw17765411914673660370:1=1:=rfl
theorem tw11179748558896013622:1=1:=rfl
theorem tw8355245451069445148:1=1:=rfl
theorem tw7830199900627783706:1=1:=rfl
theorem tw18424036345305028965:1=1:=rfl
theorem tw15564491568277967468:1=1:=rfl
theorem tw10023573256518298577:1=1:=rfl
theorem tw11881663572527130175:1=1:=rfl
theorem tw4324482685553210225:1=1:=rfl
theorem tw8699048395276274147:1=1:=rfl
theorem tw364459068894142215:1=1:=rfl
theorem tw4066110300762573606:1=1:=rfl
theorem tw12830680242052253297:1=1:=rfl
theorem tw16893624983973931095:1=1:=rfl
theorem tw6375032177951613130:1=1:=rfl
theorem tw16704562902373708984:1=1:=rfl
theorem tw7085687699531489619:1=1:=rfl
theorem tw8106584423851336449:1=1:=rfl
theorem tw16560044810870830089:1=1:=rfl
theorem tw4233622590791094805:1=1:=rfl
theorem tw4946453966791404675:1=1:=rfl
theorem tw10146265654329745144:1=1:=rfl
theorem tw7144313158478417251:1=1:=rfl
theorem tw10590674806230047441:1=1:=rfl
theorem tw912455603674995762:1=1:=rfl
theorem tw3003103507486602784:1=1:=rfl
theorem tw16447193719093345443:1=1:=rfl
theorem tw8858366633622483604:1=1:=rfl
theorem tw5441985633219743015:1=1:=rfl
theorem tw15043107421545002755:1=1:=rfl
theorem tw11935615508018516535:1=1:=rfl
theorem tw7314370102599218953:1=1:=rfl
theorem tw14456767023101538851:1=1:=rfl
theorem tw12894126705004258290:1=1:=rfl
theorem tw12887657757506665553:1=1:=rfl
theorem tw8301495061134652864:1=1:=rfl
theorem tw10403148445129202608:1=1:=rfl
theorem tw15095787873520251597:1=1:=rfl
theorem tw5057711151905111857:1=1:=rfl
theorem tw8404256254918941982:1=1:=rfl
theorem tw10057635848600114799:1=1:=rfl
theorem tw6928745761526957751:1=1:=rfl
theorem tw15891659574170828116:1=1:=rfl
theorem tw11259111985172194929:1=1:=rfl
theorem tw6621466537308815193:1=1:=rfl
theorem tw7883398180565200525:1=1:=rfl
theorem tw1314161378153332818:1=1:=rfl
theorem tw12284943647399587084:1=1:=rfl
theorem tw990089581053120812:1=1:=rfl
theorem tw11550262006279549909:1=1:=rfl
theorem tw494494451967813038:1=1:=rfl
theorem tw9857002892488769934:1=1:=rfl
theorem tw4575690989838965610:1=1:=rfl
theorem tw17358898958284121092:1=1:=rfl
theorem tw4106394913193861343:1=1:=rfl
theorem tw10109077486481580603:1=1:=rfl
theorem tw11561915661757826340:1=1:=rfl
theorem tw914550150412138168:1=1:=rfl
theorem tw8376189465603382771:1=1:=rfl
theorem tw6631265705529587882:1=1:=rfl
theorem tw10705977141682571740:1=1:=rfl
theorem tw8906377510010643761:1=1:=rfl
theorem tw16913271609967913548:1=1:=rfl
theorem tw7644508485342476370:1=1:=rfl
theorem tw3832124475667770690:1=1:=rfl
theorem tw9390970813374153355:1=1:=rfl
theorem tw635994715107521516:1=1:=rfl
theorem tw12000518124324805292:1=1:=rfl
theorem tw8439625831311511304:1=1:=rfl
theorem tw16497154440781228857:1=1:=rfl
theorem tw16825655951868851271:1=1:=rfl
theorem tw14631767708004577913:1=1:=rfl
theorem tw12309896418031172998:1=1:=rfl
theorem tw10763389867918494708:1=1:=rfl
theorem tw10534187747503340336:1=1:=rfl
theorem tw10337980445909737392:1=1:=rfl
theorem tw9201807550288887656:1=1:=rfl
theorem tw4711008746042400717:1=1:=rfl
theorem tw12426375870223123821:1=1:=rfl
theorem tw1895784606553836545:1=1:=rfl
theorem tw11715610537569281070:1=1:=rfl
theorem tw801000172755850017:1=1:=rfl
theorem tw1132694110323508349:1=1:=rfl
theorem tw14073156672950578554:1=1:=rfl
theorem tw9574076503699688141:1=1:=rfl
theorem tw2034017062333027217:1=1:=rfl
theorem tw10997533736362349501:1=1:=rfl
theorem tw6005860615349161321:1=1:=rfl
theorem tw6348620522254615894:1=1:=rfl
theorem tw13610658707309102183:1=1:=rfl
theorem tw14018567023024915383:1=1:=rfl
theorem tw9026746050910295186:1=1:=rfl
theorem tw5989741410070497888:1=1:=rfl
theorem tw11258196610402204811:1=1:=rfl
theorem tw10183428764677873646:1=1:=rfl
theorem tw996765087686362291:1=1:=rfl
theorem tw2667412330208411044:1=1:=rfl
theorem tw1604190418105063132:1=1:=rfl
theorem tw15668649672006875219:1=1:=rfl
theorem tw14547438149654725883:1=1:=rfl
theorem tw14057158589770066405:1=1:=rfl
theorem tw4933467312590212235:1=1:=rfl
theorem tw10097487796036121283:1=1:=rfl
theorem tw16006446181622856838:1=1:=rfl
theorem tw1052430162096750583:1=1:=rfl
theorem tw8190149754287685684:1=1:=rfl
theorem tw4480293832991192627:1=1:=rfl
theorem tw5985991123024815724:1=1:=rfl
theorem tw932811560384707798:1=1:=rfl
theorem tw9123470672301598762:1=1:=rfl
theorem tw8593968689797641344:1=1:=rfl
theorem tw8400441618681089966:1=1:=rfl
theorem tw6987187327654809218:1=1:=rfl
theorem tw4818743246297302723:1=1:=rfl
theorem tw3827528203149096791:1=1:=rfl
theorem tw2595346679998402530:1=1:=rfl
theorem tw1850963639458081001:1=1:=rfl
theorem tw18370990087964317868:1=1:=rfl
theorem tw17972853338419184928:1=1:=rfl
theorem tw17834766774313050109:1=1:=rfl
theorem tw17823494783287330990:1=1:=rfl
theorem tw17004503063945492811:1=1:=rfl
theorem tw16724787311312435293:1=1:=rfl
theorem tw16675725276708225727:1=1:=rfl
theorem tw16503950746970360392:1=1:=rfl
theorem tw16074503800350457650:1=1:=rfl
theorem tw16041261951910618305:1=1:=rfl
theorem tw15620389396272396190:1=1:=rfl
theorem tw15595834563337374889:1=1:=rfl
theorem tw15478580329904258905:1=1:=rfl
theorem tw1531744240792134986:1=1:=rfl
theorem tw13785139678900584283:1=1:=rfl
theorem tw13446986910963318115:1=1:=rfl
theorem tw12902585426949617015:1=1:=rfl
theorem tw12819297896002233812:1=1:=rfl
theorem tw12451574349934707792:1=1:=rfl
theorem tw11450067274672009735:1=1:=rfl
theorem tw11025148168706355764:1=1:=rfl
theorem tw2118087096565493153:1=1:=rfl
theorem tw8431179888267632630:1=1:=rfl
theorem tw18189097019453326265:1=1:=rfl
theorem tw7997782437093734442:1=1:=rfl
theorem tw13669932833196809852:1=1:=rfl
theorem tw2593952145372772040:1=1:=rfl
theorem tw2260568415784316742:1=1:=rfl
theorem tw5645934971872637450:1=1:=rfl
theorem tw6599486449270208060:1=1:=rfl
theorem tw4577022003707894884:1=1:=rfl
theorem tw1516411422716309118:1=1:=rfl
theorem tw4329925018036248628:1=1:=rfl
theorem tw17013497477047878844:1=1:=rfl
theorem tw10822226826660931639:1=1:=rfl
theorem tw6036664613504161858:1=1:=rfl
theorem tw5439858239755706103:1=1:=rfl
theorem tw5030224940968285214:1=1:=rfl
theorem tw3414459712273944657:1=1:=rfl
theorem tw3352714275385561827:1=1:=rfl
theorem tw17239931062115731805:1=1:=rfl
theorem tw15972904313297526321:1=1:=rfl
theorem tw15358553941031700587:1=1:=rfl
theorem tw13823390823785033872:1=1:=rfl
theorem tw6223439910374815200:1=1:=rfl
theorem tw18313707976132711454:1=1:=rfl
theorem tw9707663971737770023:1=1:=rfl
theorem tw6552259789839928998:1=1:=rfl
theorem tw3250717922605165295:1=1:=rfl
theorem tw8788227044994754333:1=1:=rfl
theorem tw8424775805015468736:1=1:=rfl
theorem tw8112209848485209462:1=1:=rfl
theorem tw7913128041969579960:1=1:=rfl
theorem tw742105812979879253:1=1:=rfl
theorem tw7290983270057132394:1=1:=rfl
theorem tw7274670298786150664:1=1:=rfl
theorem tw7090937808659511506:1=1:=rfl
theorem tw6548626441776094679:1=1:=rfl
theorem tw6277032519607850280:1=1:=rfl
theorem tw54645456288628876:1=1:=rfl
theorem tw54063845691025130:1=1:=rfl
theorem tw5320339511445409863:1=1:=rfl
theorem tw5216167445541426016:1=1:=rfl
theorem tw5173029515606421705:1=1:=rfl
theorem tw5025950529977737497:1=1:=rfl
theorem tw4891583788398935767:1=1:=rfl
theorem tw4816204587527350352:1=1:=rfl
theorem tw4786747782560645562:1=1:=rfl
theorem tw4774506787602670527:1=1:=rfl
theorem tw4571632902659939760:1=1:=rfl
theorem tw4012805350199082589:1=1:=rfl
theorem tw4010338991852707569:1=1:=rfl
theorem tw3944770960005158038:1=1:=rfl
theorem tw332724736888552018:1=1:=rfl
theorem tw1853251660072551074:1=1:=rfl
theorem tw17709364557546970743:1=1:=rfl
theorem tw16924790496821824637:1=1:=rfl
theorem tw16776126529267418789:1=1:=rfl
theorem tw16481250573334193707:1=1:=rfl
theorem tw16336728806172309710:1=1:=rfl
theorem tw15779520287296139641:1=1:=rfl
theorem tw15317158837923003753:1=1:=rfl
theorem tw15176399528100176828:1=1:=rfl
theorem tw15173230024842534223:1=1:=rfl
theorem tw14483734894082611894:1=1:=rfl
theorem tw14427628316364226383:1=1:=rfl
theorem tw14137776982264926425:1=1:=rfl
theorem tw13683985618875590973:1=1:=rfl
theorem tw13552200889881873368:1=1:=rfl
theorem tw1332240638695628460:1=1:=rfl
theorem tw13220686300108573995:1=1:=rfl
theorem tw12900402630357007730:1=1:=rfl
theorem tw12655987502603652279:1=1:=rfl
theorem tw12070759029885632180:1=1:=rfl
theorem tw1167635542924339528:1=1:=rfl
theorem tw1070142796163491344:1=1:=rfl
end PySem.W.Fast
open PySem PySem.W PyProof.Rows
set_option maxRecDepth 100000 in
set_option maxHeartbeats 0 in
theorem PySem.Challenge.cw_losspact_k32_rows_between_holds : PySem.Challenge.rw_losspact_k32_rows_between.Holds := by
  w_on; o_law; k_head; (case hw => w_witness2)
  k_fill
  refine K32.walk K32.main (l:=PySem.Challenge.rw_losspact_k32_rows_between) rfl rfl (fun w h Y => PySem.W.kIn_of Y) ?F
  case F =>
    intro w mg fa h KX G hmg
    refine' K32.all_mk KX G hmg ?a0 ?l1 ?c2 ?k3 ?a4 ?l5 ?c6 ?k7 ?a8 ?l9 ?c10 ?k11 ?a12 ?l13 ?c14 ?k15 ?a16 ?l17 ?c18 ?k19 ?a20 ?l21 ?c22 ?k23 ?a24 ?l25 ?c26 ?k27 ?a28 ?l29 ?c30 ?k31 ?a32 ?l33 ?c34 ?k35 ?a36 ?l37 ?c38 ?k39 ?a40 ?l41 ?c42 ?k43 ?a44 ?l45 ?c46 ?k47 ?a48 ?l49 ?c50 ?k51 ?a52 ?l53 ?c54 ?k55 ?a56 ?l57 ?c58 ?k59 ?a60 ?l61 ?c62 ?k63 ?a64 ?l65 ?c66 ?k67 ?a68 ?l69 ?c70 ?k71 ?a72 ?l73 ?c74 ?k75 ?a76 ?l77 ?c78 ?k79 ?a80 ?l81 ?c82 ?k83 ?a84 ?l85 ?c86 ?k87 ?a88 ?l89 ?c90 ?k91 ?a92 ?l93 ?c94 ?k95 ?a96 ?l97 ?c98 ?k99 ?a100 ?l101 ?c102 ?k103 ?a104 ?l105 ?c106 ?k107 ?a108 ?l109 ?c110 ?k111 ?a112 ?l113 ?c114 ?k115 ?a116 ?l117 ?c118 ?k119 ?a120 ?l121 ?c122 ?k123 ?a124 ?l125 ?c126 ?k127 ?a128 ?l129 ?c130 ?k131 ?z132 ?z133 ?z134 ?z135 ?z136 ?z137 ?z138 ?z139 ?z140 ?z141 ?z142 ?z143 ?z144 ?g145;(case a0=>k_is);(case l1=>k_is);(case c2=>k_is);(case k3=>k_is);(case a4=>k_is);(case l5=>k_is);(case c6=>k_is);(case k7=>k_is);(case a8=>k_is);(case l9=>k_is);(case c10=>k_is);(case k11=>k_is);(case a12=>k_is);(case l13=>k_is);(case c14=>k_is);(case k15=>k_is);(case a16=>k_is);(case l17=>k_is);(case c18=>k_is);(case k19=>k_is);(case a20=>k_is);(case l21=>k_is);(case c22=>k_is);(case k23=>k_is);(case a24=>k_is);(case l25=>k_is);(case c26=>k_is);(case k27=>k_is);(case a28=>k_is);(case l29=>k_is);(case c30=>k_is);(case k31=>k_is);(case a32=>k_is);(case l33=>k_is);(case c34=>k_is);(case k35=>k_is);(case a36=>k_is);(case l37=>k_is);(case c38=>k_is);(case k39=>k_is);(case a40=>k_is);(case l41=>k_is);(case c42=>k_is);(case k43=>k_is);(case a44=>k_is);(case l45=>k_is);(case c46=>k_is);(case k47=>k_is);(case a48=>k_is);(case l49=>k_is);(case c50=>k_is);(case k51=>k_is);(case a52=>k_is);(case l53=>k_is);(case c54=>k_is);(case k55=>k_is);(case a56=>k_is);(case l57=>k_is);(case c58=>k_is);(case k59=>k_is);(case a60=>k_is);(case l61=>k_is);(case c62=>k_is);(case k63=>k_is);(case a64=>k_is);(case l65=>k_is);(case c66=>k_is);(case k67=>k_is);(case a68=>k_is);(case l69=>k_is);(case c70=>k_is);(case k71=>k_is);(case a72=>k_is);(case l73=>k_is);(case c74=>k_is);(case k75=>k_is);(case a76=>k_is);(case l77=>k_is);(case c78=>k_is);(case k79=>k_is);(case a80=>k_is);(case l81=>k_is);(case c82=>k_is);(case k83=>k_is);(case a84=>k_is);(case l85=>k_is);(case c86=>k_is);(case k87=>k_is);(case a88=>k_is);(case l89=>k_is);(case c90=>k_is);(case k91=>k_is);(case a92=>k_is);(case l93=>k_is);(case c94=>k_is);(case k95=>k_is);(case a96=>k_is);(case l97=>k_is);(case c98=>k_is);(case k99=>k_is);(case a100=>k_is);(case l101=>k_is);(case c102=>k_is);(case k103=>k_is);(case a104=>k_is);(case l105=>k_is);(case c106=>k_is);(case k107=>k_is);(case a108=>k_is);(case l109=>k_is);(case c110=>k_is);(case k111=>k_is);(case a112=>k_is);(case l113=>k_is);(case c114=>k_is);(case k115=>k_is);(case a116=>k_is);(case l117=>k_is);(case c118=>k_is);(case k119=>k_is);(case a120=>k_is);(case l121=>k_is);(case c122=>k_is);(case k123=>k_is);(case a124=>k_is);(case l125=>k_is);(case c126=>k_is);(case k127=>k_is);(case a128=>k_is);(case l129=>k_is);(case c130=>k_is);(case k131=>k_is);(case z132=>k_is);(case z133=>k_is);(case z134=>k_is);(case z135=>k_is);(case z136=>k_is);(case z137=>k_is);(case z138=>k_is);(case z139=>k_is);(case z140=>k_is);(case z141=>k_is);(case z142=>k_is);(case z143=>k_is);(case z144=>k_is);(case g145=>k_is)
